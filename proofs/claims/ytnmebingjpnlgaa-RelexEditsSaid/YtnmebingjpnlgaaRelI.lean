/- The contract of relex's kept. -/
import Derived.Test.YtnmebingjpnlgaaRelH
import Derived.Deep.RegionHeld3
namespace Go.Proofs.Ytnmebingjpnlgaa
open Go.RowKit Go.Lib
set_option maxRecDepth 100000
set_option linter.unusedVariables false
set_option linter.unusedSectionVars false

/-- how many of the first tokens of two lists are the same but for a shift, and none begins ahead of to. -/
def keptR (by_ to : Int) : List Lx.Tok → List Lx.Tok → Nat
  | t :: ts, u :: us => if (t.a : Int) < to then 0 else if (t.kind = u.kind ∧ (t.a : Int) + by_ = u.a) ∧ (t.b : Int) + by_ = u.b then keptR by_ to ts us + 1 else 0
  | _, _ => 0
theorem kept_le (by_ to : Int) : ∀ ts us : List Lx.Tok, keptR by_ to ts us ≤ ts.length ∧ keptR by_ to ts us ≤ us.length
  | [], _ => by simp [keptR]
  | _ :: _, [] => by simp [keptR]
  | t :: ts, u :: us => by
    have := kept_le by_ to ts us
    rw [keptR]
    simp only [List.length_cons]
    split
    · omega
    · split <;> omega
theorem drop_rev {α : Type} (ts : List α) {k : Nat} {t : α} (hk : k < ts.length) (h : ts[ts.length - 1 - k]? = some t) : ts.reverse.drop k = t :: ts.reverse.drop (k + 1) := by
  rw [List.drop_eq_getElem_cons (by simpa using hk)]
  congr 1
  rw [List.getElem_reverse]
  exact (List.getElem?_eq_some_iff.1 h).2
/-- the sum of what is kept and what is still to be looked at. -/
def KeptRel (by_ to : Int) (ts us : List Lx.Tok) (k : Nat) : Prop := keptR by_ to (ts.reverse.drop k) (us.reverse.drop k) + k = keptR by_ to ts.reverse us.reverse
section
variable {by_ to : Int} {ts us : List Lx.Tok} {k : Nat} {t u : Lx.Tok} (h : KeptRel by_ to ts us k) (h1 : k < ts.length) (h2 : k < us.length) (e1 : ts[ts.length - 1 - k]? = some t) (e2 : us[us.length - 1 - k]? = some u)
include h h1 h2 e1 e2
theorem kept_stop1 (h3 : (t.a : Int) < to) : keptR by_ to ts.reverse us.reverse = k := by
  unfold KeptRel at h
  rw [drop_rev ts h1 e1, drop_rev us h2 e2, keptR, if_pos h3] at h
  omega
theorem kept_stop2 (h3 : ¬ (t.a : Int) < to) (h4 : ¬ ((t.kind = u.kind ∧ (t.a : Int) + by_ = u.a) ∧ (t.b : Int) + by_ = u.b)) : keptR by_ to ts.reverse us.reverse = k := by
  unfold KeptRel at h
  rw [drop_rev ts h1 e1, drop_rev us h2 e2, keptR, if_neg h3, if_neg h4] at h
  omega
theorem kept_go (h3 : ¬ (t.a : Int) < to) (h4 : (t.kind = u.kind ∧ (t.a : Int) + by_ = u.a) ∧ (t.b : Int) + by_ = u.b) : KeptRel by_ to ts us (k + 1) := by
  unfold KeptRel at h ⊢
  rw [drop_rev ts h1 e1, drop_rev us h2 e2, keptR, if_neg h3, if_pos h4] at h
  omega
end
theorem kept_end {by_ to : Int} {ts us : List Lx.Tok} {k : Nat} (h : KeptRel by_ to ts us k) (h1 : k = ts.length ∨ k = us.length) : keptR by_ to ts.reverse us.reverse = k := by
  unfold KeptRel at h
  have := kept_le by_ to (ts.reverse.drop k) (us.reverse.drop k)
  simp only [List.length_drop, List.length_reverse] at this
  omega
theorem kept_far {t u : Lx.Tok} {by_ : Int} (h : ((!(t.kind : Int) == u.kind) = true ∨ (!((t.a : Int) + by_) == u.a) = true) ∨ (!((t.b : Int) + by_) == u.b) = true) : ¬ ((t.kind = u.kind ∧ (t.a : Int) + by_ = u.a) ∧ (t.b : Int) + by_ = u.b) := by
  rintro ⟨⟨h1, h2⟩, h3⟩
  simp [h1, h2, h3] at h
theorem kept_near {t u : Lx.Tok} {by_ : Int} (h : ((!(t.kind : Int) == u.kind) = false ∧ (!((t.a : Int) + by_) == u.a) = false) ∧ (!((t.b : Int) + by_) == u.b) = false) : (t.kind = u.kind ∧ (t.a : Int) + by_ = u.a) ∧ (t.b : Int) + by_ = u.b := by
  simp only [Bool.not_eq_false', beq_iff_eq] at h
  obtain ⟨⟨h1, h2⟩, h3⟩ := h
  exact ⟨⟨by omega, h2⟩, h3⟩
/-- six cells that are read at a world, and all that was there at another one is as it was. -/
def Six (W0 : World) (g g2 o2 : Nat) (x0 x1 x2 y0 y1 y2 : Int) : Prop :=
  (W0.cell? ⟨g, 0, none⟩ = some (.int .i64 x0) ∧ W0.cell? ⟨g, 1, none⟩ = some (.int .i64 x1) ∧ W0.cell? ⟨g, 2, none⟩ = some (.int .i64 x2)) ∧
  (W0.cell? ⟨g2, o2, none⟩ = some (.int .i64 y0) ∧ W0.cell? ⟨g2, o2 + 1, none⟩ = some (.int .i64 y1) ∧ W0.cell? ⟨g2, o2 + 2, none⟩ = some (.int .i64 y2)) ∧ g < W0.heap.size ∧ g2 < W0.heap.size
theorem keepS {W0 w' w'' : World} {g g2 o2 : Nat} {x0 x1 x2 y0 y1 y2 : Int} (hb : Below w'.heap.size w' w'') (h : RowKit.Hid (Below W0.heap.size W0 w')) (F : RowKit.Hid (Six W0 g g2 o2 x0 x1 x2 y0 y1 y2)) :
    w''.cell? ⟨g, 0, none⟩ = some (.int .i64 x0) ∧ w''.cell? ⟨g, 1, none⟩ = some (.int .i64 x1) ∧ w''.cell? ⟨g, 2, none⟩ = some (.int .i64 x2) ∧
    w''.cell? ⟨g2, o2, none⟩ = some (.int .i64 y0) ∧ w''.cell? ⟨g2, o2 + 1, none⟩ = some (.int .i64 y1) ∧ w''.cell? ⟨g2, o2 + 2, none⟩ = some (.int .i64 y2) ∧ RowKit.Hid (Below W0.heap.size W0 w'') := by
  obtain ⟨⟨a0, a1, a2⟩, ⟨b0, b1, b2⟩, l1, l2⟩ := F
  have H : Below W0.heap.size W0 w'' := h.out.trans (hb.mono h.out.size)
  exact ⟨(H.cell (p := ⟨g, 0, none⟩) l1).trans a0, (H.cell (p := ⟨g, 1, none⟩) l1).trans a1, (H.cell (p := ⟨g, 2, none⟩) l1).trans a2, (H.cell (p := ⟨g2, o2, none⟩) l2).trans b0, (H.cell (p := ⟨g2, o2 + 1, none⟩) l2).trans b1, (H.cell (p := ⟨g2, o2 + 2, none⟩) l2).trans b2, H⟩
theorem six_new {wr : World} {g2 o2 : Nat} {x0 x1 x2 y0 y1 y2 : Int} (T : TypeId) (hg : g2 < wr.heap.size) (f0 : wr.cell? ⟨g2, o2, none⟩ = some (.int .i64 y0)) (f1 : wr.cell? ⟨g2, o2 + 1, none⟩ = some (.int .i64 y1)) (f2 : wr.cell? ⟨g2, o2 + 2, none⟩ = some (.int .i64 y2)) :
    Six (wr.alloc (.cells #[.int .i64 x0, .int .i64 x1, .int .i64 x2] T)) wr.heap.size g2 o2 x0 x1 x2 y0 y1 y2 := by
  have hb : Below wr.heap.size wr (wr.alloc (.cells #[.int .i64 x0, .int .i64 x1, .int .i64 x2] T)) := (Below.refl _ _).alloc (Nat.le_refl _) _
  exact ⟨⟨tok_news _ _ _ _ 0 _ rfl, tok_news _ _ _ _ 1 _ rfl, tok_news _ _ _ _ 2 _ rfl⟩, ⟨(hb.cell (p := ⟨g2, o2, none⟩) hg).trans f0, (hb.cell (p := ⟨g2, o2 + 1, none⟩) hg).trans f1, (hb.cell (p := ⟨g2, o2 + 2, none⟩) hg).trans f2⟩, by simp, by simp; omega⟩
set_option maxHeartbeats 4000000 in
theorem kept_any (v1 v2 : Value) (ts us : List Lx.Tok) (to by_ : Int) (w : World) (B1 B2 : Nat) (hB : B1 ≤ w.heap.size) (hB2 : B2 ≤ w.heap.size) (h1 : Rd w B1 3 v1 ts.length (toksCells ts)) (h2 : Rd w B2 3 v2 us.length (toksCells us))
    (hl1 : ts.length ≤ 1099511627776) (hl2 : us.length ≤ 1099511627776) (hs : Sm ts) (hy : -2251799813685248 ≤ by_ ∧ by_ ≤ 2251799813685248) :
    Calls Try.prog 24 #[v1, v2, .int .i64 to, .int .i64 by_] w fun e w' => e = .returned (.int .i64 (keptR by_ to ts.reverse us.reverse : Nat)) ∧ Below w.heap.size w w' := by
  obtain ⟨-, A1, c1, rfl, hc1, h1⟩ := h1
  obtain ⟨-, A2, c2, rfl, hc2, h2⟩ := h2
  obtain ⟨n, hn⟩ : ∃ n, n = ts.length := ⟨_, rfl⟩
  obtain ⟨m, hm⟩ : ∃ m, m = us.length := ⟨_, rfl⟩
  rw [← hn] at h1 hc1 hl1 ⊢
  rw [← hm] at h2 hc2 hl2 ⊢
  have HH1 := Lib.hid h1
  have HH2 := Lib.hid h2
  have HN := Lib.hid hn
  have HM := Lib.hid hm
  have HSM := Lib.hid hs
  clear h1 h2 hn hm hs
  go_enter Try.func24, Try.ntmps24
  go_wp2
  go_loopw [9] (fun i wr => ∃ k : Nat, k ≤ n ∧ k ≤ m ∧ i = .int .i64 k ∧ KeptRel by_ to ts us k ∧ Below w.heap.size w wr) (fun i _ => n - (intOf i).toNat)
  case atStart => exact ⟨0, by omega, by omega, rfl, by simp [KeptRel], Below.refl _ _⟩
  case round =>
    obtain ⟨k, hkn, hkm, rfl, hrel, hb⟩ := hrel
    have HR := Lib.hid hrel
    have HB := Lib.hid hb
    have hsz : w.heap.size ≤ wr.heap.size := hb.size
    clear hrel hb
    by_cases hlt : k < n ∧ k < m
    · obtain ⟨hlt1, hlt2⟩ := hlt
      obtain ⟨g, o, rfl, hg, hr⟩ := HH1.out (by omega)
      obtain ⟨g2, o2, rfl, hg2, hr2⟩ := HH2.out (by omega)
      obtain ⟨t, ht, d0, d1, d2⟩ := rd_tok hr HN.out (k := n - 1 - k) (by omega)
      obtain ⟨u, hu, f0, f1, f2⟩ := rd_tok hr2 HM.out (k := m - 1 - k) (by omega)
      have hk1 : (k : Int) < n := by omega
      have hk2 : (k : Int) < m := by omega
      have c0 := (HB.out.cell (p := ⟨g, o + (n - 1 - k) * 3, none⟩) (by show g < _; omega)).trans d0
      have c1' := (HB.out.cell (p := ⟨g, o + (n - 1 - k) * 3 + 1, none⟩) (by show g < _; omega)).trans d1
      have c2' := (HB.out.cell (p := ⟨g, o + (n - 1 - k) * 3 + 2, none⟩) (by show g < _; omega)).trans d2
      have HT := Lib.hid ht
      have HU := Lib.hid hu
      clear hr hr2 d0 d1 d2 ht hu
      by_cases h3 : (t.a : Int) < to
      · have hd : decide ((t.a : Int) < to) = true := by simpa using h3
        have HS := Lib.hid (kept_stop1 HR.out (by have := HN.out; omega) (by have := HM.out; omega) (by rw [← HN.out]; exact HT.out) (by rw [← HM.out]; exact HU.out) h3)
        clear h3
        go_wp2
        all_goals
          go_quiet (fail)
          go_wp2
          go_ret
          exact ⟨ret_int (by rw [HS.out]), below_drewN (HB.out.alloc hsz _) _⟩
      · have hd : decide ((t.a : Int) < to) = false := by simpa using h3
        have hnq := run_neq_tok
        have hml : t.a ≤ 1125899906842624 ∧ t.b ≤ 1125899906842624 := HSM.out t (List.mem_of_getElem? HT.out)
        have HV := Lib.hid (fun W => moved_any (t.kind : Int) (t.a : Int) (t.b : Int) by_ W (by omega) (by omega) hy)
        have g0 := (HB.out.cell (p := ⟨g2, o2 + (m - 1 - k) * 3, none⟩) (by show g2 < _; omega)).trans f0
        have g1 := (HB.out.cell (p := ⟨g2, o2 + (m - 1 - k) * 3 + 1, none⟩) (by show g2 < _; omega)).trans f1
        have g2' := (HB.out.cell (p := ⟨g2, o2 + (m - 1 - k) * 3 + 2, none⟩) (by show g2 < _; omega)).trans f2
        have F6 := Lib.hid (six_new (wr := wr) (x0 := t.kind) (x1 := t.a) (x2 := t.b) 27 (by omega) g0 g1 g2')
        have FB := Lib.hid (Below.refl (wr.alloc (.cells #[.int .i64 (t.kind : Int), .int .i64 (t.a : Int), .int .i64 (t.b : Int)] 27)).heap.size (wr.alloc (.cells #[.int .i64 (t.kind : Int), .int .i64 (t.a : Int), .int .i64 (t.b : Int)] 27)))
        have hgl : g2 < wr.heap.size + 1 := by omega
        have hw1 : IntKind.i64.wrap ((m : Int) - 1) = m - 1 := by rw [IntKind.wrap_i64]; omega
        have hw2 : IntKind.i64.wrap ((m : Int) - 1 - k) = m - 1 - k := by rw [IntKind.wrap_i64]; omega
        have hq0 : (k : Int) ≤ (m : Int) - 1 := by omega
        have hq1 : (m : Int) - 1 - k < m := by omega
        have hq2 : ((m : Int) - 1 - k).toNat = m - 1 - k := by omega
        clear g0 g1 g2' hml
        go_wp2
        all_goals
          go_region_held3 (fun w' => w'.cell? ⟨wr.heap.size, 0, none⟩ = some (.int .i64 (t.kind : Int)) ∧ w'.cell? ⟨wr.heap.size, 1, none⟩ = some (.int .i64 (t.a : Int)) ∧ w'.cell? ⟨wr.heap.size, 2, none⟩ = some (.int .i64 (t.b : Int)) ∧ w'.cell? ⟨g2, o2 + (m - 1 - k) * 3, none⟩ = some (.int .i64 (u.kind : Int)) ∧ w'.cell? ⟨g2, o2 + (m - 1 - k) * 3 + 1, none⟩ = some (.int .i64 (u.a : Int)) ∧ w'.cell? ⟨g2, o2 + (m - 1 - k) * 3 + 2, none⟩ = some (.int .i64 (u.b : Int)) ∧ RowKit.Hid (Below (wr.alloc (.cells #[.int .i64 (t.kind : Int), .int .i64 (t.a : Int), .int .i64 (t.b : Int)] 27)).heap.size (wr.alloc (.cells #[.int .i64 (t.kind : Int), .int .i64 (t.a : Int), .int .i64 (t.b : Int)] 27)) w')) (first | assumption | exact keepS (Below.refl _ _) FB F6 | (go_split_ands; exact keepS (Below.refl _ _) ‹RowKit.Hid (Below _ _ _)› F6) | (go_split_ands; exact keepS ‹Below _ _ _› ‹RowKit.Hid (Below _ _ _)› F6) | (go_split_ands; exact keepS (Below.drew ‹Below _ _ _›) ‹RowKit.Hid (Below _ _ _)› F6) | (go_split_ands; exact keepS (Below.drew (Below.refl _ _)) ‹RowKit.Hid (Below _ _ _)› F6)) (first | (go_at_call 39; with_reducible (refine (HV.out _).mono ?_); rintro e w' ⟨rfl, hb⟩))
          go_wp2
          · rename_i h
            have HS := kept_stop2 HR.out (by have := HN.out; omega) (by have := HM.out; omega) (by rw [← HN.out]; exact HT.out) (by rw [← HM.out]; exact HU.out) (by omega) (kept_far h)
            go_ret
            go_split_ands
            exact ⟨ret_int (by rw [HS]), (HB.out.alloc hsz _).trans ((‹RowKit.Hid (Below _ _ _)›.out).mono (by simp; omega))⟩
          · rename_i h
            have HS := kept_go HR.out (by have := HN.out; omega) (by have := HM.out; omega) (by rw [← HN.out]; exact HT.out) (by rw [← HM.out]; exact HU.out) (by omega) (kept_near h)
            go_roundw
            case rel =>
              go_split_ands
              exact ⟨k + 1, by omega, by omega, by go_num, HS, (HB.out.alloc hsz _).trans ((‹RowKit.Hid (Below _ _ _)›.out).mono (by simp; omega))⟩
            case measure => simp [intOf]; omega
    · have hend : k = ts.length ∨ k = us.length := by have := HN.out; have := HM.out; omega
      have HE := Lib.hid (kept_end HR.out hend)
      clear hend
      go_wp2
      all_goals (go_ret; exact ⟨ret_int (by rw [HE.out]), HB.out⟩)
end Go.Proofs.Ytnmebingjpnlgaa
