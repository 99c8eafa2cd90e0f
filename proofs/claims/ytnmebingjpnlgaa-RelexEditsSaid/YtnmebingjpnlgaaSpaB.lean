/- The contract of relex's Spans: the walk. -/
import Derived.Test.YtnmebingjpnlgaaSpaA
import Derived.Test.YtnmebingjpnlgaaRelH
namespace Go.Proofs.Ytnmebingjpnlgaa
open Go.RowKit Go.Lib
set_option maxRecDepth 100000
set_option linter.unusedVariables false
set_option linter.unusedSectionVars false

theorem Try.infoSp : (Try.prog.info? 43).map (fun i => (i.zero, i.size, i.bytes)) = some (some (.agg #[.int .i64 0, .int .i64 0]), 2, 16) := by kernel_rfl
theorem semi2 : (ByteArray.mk #[59, 59]).toList = [59, 59] := by decide +kernel
def SpRel (p : IT → Bool) (ts : List IT) (w : World) (k : Nat) (v ins : Value) (wr : World) : Prop :=
  ins = .bool (spSt p (ts.take k)).1 ∧ wr.ownsRow w.heap.size 43 2 v (spSt p (ts.take k)).2.length (spCells (spSt p (ts.take k)).2) ∧ Below w.heap.size w wr
def SpPost (p : IT → Bool) (ts : List IT) (w : World) (e : Ending) (w' : World) : Prop :=
  ∃ v, e = .returned v ∧ w'.ownsRow w.heap.size 43 2 v (spansF p ts).length (spCells (spansF p ts)) ∧ Below w.heap.size w w'
theorem pair_news {W : World} (t : TypeId) (a b : Int) : ∀ (j : Nat) (u : Value), ([.int .i64 a, .int .i64 b] : List Value)[j]? = some u → (W.alloc (.cells #[.int .i64 a, .int .i64 b] t)).cell? ((⟨W.heap.size, 0, none⟩ : Addr).add j) = some u := by
  intro j u h
  match j, h with
  | 0, h => exact h ▸ cell_two_new _ _ _ _ 0 _ rfl
  | 1, h => exact h ▸ cell_two_new _ _ _ _ 1 _ rfl
theorem box_cells {wr w1 : World} {T : TypeId} {k a b : Int} (hb : Below (wr.alloc (.cells #[.int .i64 k, .int .i64 a, .int .i64 b] T)).heap.size (wr.alloc (.cells #[.int .i64 k, .int .i64 a, .int .i64 b] T)) w1) :
    w1.cell? ⟨wr.heap.size, 1, none⟩ = some (.int .i64 a) ∧ w1.cell? ⟨wr.heap.size, 2, none⟩ = some (.int .i64 b) ∧ wr.heap.size < w1.heap.size := by
  have hs := hb.size
  simp only [World.size_alloc] at hs
  exact ⟨(hb.cell (p := ⟨wr.heap.size, 1, none⟩) (by simp)).trans (tok_news _ _ _ _ 1 _ rfl), (hb.cell (p := ⟨wr.heap.size, 2, none⟩) (by simp)).trans (tok_news _ _ _ _ 2 _ rfl), by omega⟩
section
variable {p : IT → Bool} {ts : List IT} {k : Nat} {t : IT} {acc : List (Int × Int)} {ins : Bool}
theorem st_new (h : spSt p (ts.take (k + 1)) = spStep p (false, acc) t) (hE : p t = false) : spSt p (ts.take (k + 1)) = (true, acc ++ [(t.a, t.b)]) := by
  rw [h]; unfold spStep; rw [hE]; rfl
theorem st_in (h : spSt p (ts.take (k + 1)) = spStep p (true, acc) t) (hE : p t = false) : spSt p (ts.take (k + 1)) = (true, setB acc t.b) := by
  rw [h]; unfold spStep; rw [hE]; rfl
theorem st_end (h : spSt p (ts.take (k + 1)) = spStep p (ins, acc) t) (hE : p t = true) : spSt p (ts.take (k + 1)) = (false, acc) := by
  rw [h]; unfold spStep; rw [hE]; rfl
theorem rel_of {w w' : World} {v : Value} {x : Bool × List (Int × Int)} (h : spSt p (ts.take k) = x) (h1 : w'.ownsRow w.heap.size 43 2 v x.2.length (spCells x.2)) (h2 : Below w.heap.size w w') : SpRel p ts w k v (.bool x.1) w' := by
  subst h; exact ⟨rfl, h1, h2⟩
/-- the cell of the last span's end. -/
theorem last_cell {w : World} {base g c m : Nat} {T : TypeId} (h : w.ownsRow base T 2 (.slice (some ⟨g, 0, none⟩) (m + 1) c) acc.length (spCells acc)) (hm : acc.length = m + 1) :
    ∃ x : Int, w.cell? ⟨g, m * 2 + 1, none⟩ = some (.int .i64 x) := by
  rw [hm] at h
  rw [h.cellAt (m * 2 + 1) (by omega)]
  have hl := sp_len acc
  obtain ⟨i, x, rfl⟩ := last_split (l := acc) (by intro e; rw [e] at hm; simp at hm)
  have hi : i.length = m := by simpa using hm
  refine ⟨x.2, ?_⟩
  rw [sp_app, List.getElem?_append_right (by rw [sp_len]; omega), sp_len, hi, show m * 2 + 1 - m * 2 = 1 by omega]
  rfl
theorem own_last {w : World} {base g c m : Nat} {T : TypeId} (h : w.ownsRow base T 2 (.slice (some ⟨g, 0, none⟩) (m + 1) c) acc.length (spCells acc)) (hm : acc.length = m + 1) (b : Int) :
    ((w.setCell ⟨g, m * 2 + 1, none⟩ (.int .i64 b)).drew).ownsRow base T 2 (.slice (some ⟨g, 0, none⟩) (m + 1) c) (setB acc b).length (spCells (setB acc b)) := by
  have hne : acc ≠ [] := by intro e; rw [e] at hm; simp at hm
  rw [setB_len hne, ← sp_set hne, hm, Nat.add_sub_cancel]
  rw [hm] at h
  exact (h.stored (m * 2 + 1) (.int .i64 b)).1
end
set_option maxHeartbeats 4000000 in
theorem spans_any (s : ByteArray) (v1 : Value) (ts : List IT) (w : World) (B1 : Nat) (hB : B1 ≤ w.heap.size) (h1 : Rd w B1 3 v1 ts.length (itsCells ts)) (hl : ts.length ≤ 1099511627776) (hs : s.size ≤ 1099511627776) :
    Calls Try.prog 15 #[.string s, v1] w (SpPost (isB s [59, 59]) ts w) := by
  obtain ⟨hl1, A1, c1, rfl, hc1, h1⟩ := h1
  obtain ⟨i0, hi, hz0, hz1, hz2⟩ := info_parts Try.infoSp
  obtain ⟨n, hn⟩ : ∃ n, n = ts.length := ⟨_, rfl⟩
  obtain ⟨p, hp⟩ : ∃ p, p = isB s [59, 59] := ⟨_, rfl⟩
  rw [← hn] at h1 hc1 hl ⊢
  rw [← hp]
  have HP := Lib.hid hp
  have HH := Lib.hid h1
  have HN := Lib.hid hn
  clear h1 hn hl1 hp
  go_enter Try.func15, Try.ntmps15
  go_wp2
  go_loopw [5, 6, 11] (fun v ins i wr => ∃ k : Nat, k ≤ n ∧ i = .int .i64 k ∧ SpRel p ts w k v ins wr) (fun _ _ i _ => n - (intOf i).toNat)
  case atStart => exact ⟨0, by omega, rfl, rfl, World.ownsRow_nil _ _ _ _, Below.refl _ _⟩
  case round =>
    obtain ⟨k, hk, rfl, hrel⟩ := hrel
    obtain ⟨rfl, hrel⟩ := hrel
    have HR := Lib.hid hrel
    have hsz : w.heap.size ≤ wr.heap.size := hrel.2.size
    clear hrel
    by_cases hlt : k < n
    · obtain ⟨g, o, rfl, hg, hr⟩ := HH.out (by omega)
      obtain ⟨t, ht, d0, d1, d2⟩ := rd_it hr HN.out hlt
      have c0 := (HR.out.2.cell (p := ⟨g, o + k * 3, none⟩) (by show g < _; omega)).trans d0
      have c1 := (HR.out.2.cell (p := ⟨g, o + k * 3 + 1, none⟩) (by show g < _; omega)).trans d1
      have c2 := (HR.out.2.cell (p := ⟨g, o + k * 3 + 2, none⟩) (by show g < _; omega)).trans d2
      have HT := Lib.hid ht
      have hkn : (k : Int) < n := by omega
      have hct := (sp_count p (ts.take k)).1
      rw [List.length_take] at hct
      have HNE := Lib.hid (sp_count p (ts.take k)).2
      have hst := sp_take p ht
      obtain ⟨x, hx⟩ : ∃ x, x = spSt p (ts.take k) := ⟨_, rfl⟩
      obtain ⟨ins, acc⟩ := x
      rw [← hx] at hct HNE HR hst ⊢
      have HX := Lib.hid hx
      have HST := Lib.hid hst
      clear hr ht d0 d1 d2 hx hst
      have hal : acc.length ≤ n := by simp only at hct; omega
      clear hct
      have HI := Lib.hid (fun W => is_any s t { data := #[59, 59] } W (by omega))
      cases hE : p t
      · have HI0 := Lib.hid (fun W => (HI.out W).mono fun e w' h => ((⟨h.1.trans (by rw [semi2, ← HP.out, hE]), h.2⟩ : e = .returned (.bool false) ∧ Below W.heap.size W w')))
        have HE := Lib.hid hE
        clear hE
        cases ins
        · have HS2 := Lib.hid (st_new HST.out HE.out)
          go_wp2_with (first | (go_at_call 18; with_reducible (refine (HI0.out _).mono ?_); rintro e w' ⟨rfl, hb⟩; obtain ⟨q1, q2, q3⟩ := box_cells hb; have HBB := Lib.hid hb; clear hb) | (at_builtin; refine wpList_append_own _ rfl _ _ 34 rfl w.heap.size 43 i0 _ 2 16 Try.underlying34 hi hz0 hz1 hz2 rfl (by decide) _ _ _ rfl ((own_keep HR.out.1 HBB.out).alloc _) ⟨_, 0, none⟩ 1 1 (spCells [(t.a, t.b)]) rfl rfl (pair_news _ _ _) (sp_plain _) (by unfold maxLen; omega) (by omega) (by have := HBB.out.size; simp at this ⊢; omega) ?_; intro v9 w1 hown9 hgrow hnil))
          go_roundw
          case rel =>
            refine ⟨k + 1, by omega, by go_num, ?_⟩
            refine rel_of HS2.out ?_ ((((HR.out.2.alloc hsz _).trans (HBB.out.mono (by simp; omega))).alloc (by have := HBB.out.size; simp at this ⊢; omega) _).grown hgrow (by have := HBB.out.size; simp at this ⊢; omega) (fun g e => (HR.out.1.lt g e).1))
            rw [sp_app, List.length_append]
            exact hown9
          case measure => simp [intOf]; omega
        · have HS2 := Lib.hid (st_in HST.out HE.out)
          have hne : acc ≠ [] := HNE.out rfl
          obtain ⟨m, hm⟩ : ∃ m, acc.length = m + 1 := ⟨acc.length - 1, by have := List.length_pos_iff.2 hne; omega⟩
          have HNE2 := Lib.hid hne
          clear hne
          obtain ⟨g2, cc, hv⟩ := own_form HR.out.1 (fun e => by rcases HR.out.1.2 with ⟨_, h⟩ | ⟨_, _, _, h, _⟩; · simp only at h; omega
                                                                · rw [e] at h; simp at h)
          simp only [hm] at hv
          subst hv
          have HM := Lib.hid hm
          have hmn : m < n := by omega
          clear hm hal
          go_wp2_with (first | (go_at_call 18; with_reducible (refine (HI0.out _).mono ?_); rintro e w' ⟨rfl, hb⟩; obtain ⟨q1, q2, q3⟩ := box_cells hb; have HBB := Lib.hid hb; clear hb; have HO := Lib.hid (own_keep HR.out.1 HBB.out); obtain ⟨x0, f0⟩ := last_cell HO.out HM.out; have f1 := (HM.out ▸ HO.out).frozenAt (m * 2 + 1)))
          go_region
          go_wp2
          go_roundw
          case rel =>
            refine ⟨k + 1, by omega, by go_num, ?_⟩
            exact rel_of HS2.out (own_last HO.out HM.out t.b) ((((HR.out.2.alloc hsz _).trans (HBB.out.mono (by simp; omega))).setCell (HR.out.1.lt g2 rfl).1 _).drew)
          case measure => simp [intOf]; omega
      · have HI1 := Lib.hid (fun W => (HI.out W).mono fun e w' h => ((⟨h.1.trans (by rw [semi2, ← HP.out, hE]), h.2⟩ : e = .returned (.bool true) ∧ Below W.heap.size W w')))
        have HE := Lib.hid hE
        have HS2 := Lib.hid (st_end HST.out HE.out)
        clear hE
        go_wp2_with (first | (go_at_call 18; with_reducible (refine (HI1.out _).mono ?_); rintro e w' ⟨rfl, hb⟩; obtain ⟨q1, q2, q3⟩ := box_cells hb; have HBB := Lib.hid hb; clear hb))
        go_roundw
        case rel => exact ⟨k + 1, by omega, by go_num, rel_of HS2.out (own_keep HR.out.1 HBB.out) ((HR.out.2.alloc hsz _).trans (HBB.out.mono (by simp; omega)))⟩
        case measure => simp [intOf]; omega
    · go_wp2
      go_ret
      have e : k = n := by omega
      subst e
      refine ⟨_, rfl, ?_, HR.out.2⟩
      have h := HR.out.1
      rw [HN.out, List.take_length] at h
      exact h
end Go.Proofs.Ytnmebingjpnlgaa
