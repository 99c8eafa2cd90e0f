/- The contract of the document's Spans. -/
import Derived.Test.YtnmebingjpnlgaaSpaR
namespace Go.Proofs.Ytnmebingjpnlgaa
open Go.RowKit Go.Lib
set_option maxRecDepth 100000
set_option linter.unusedVariables false
set_option linter.unusedSectionVars false

theorem setB_snoc (acc : List (Int × Int)) (a b c : Int) : setB (acc ++ [(a, c)]) b = acc ++ [(a, b)] := by simp [setB]
theorem after_new {w : World} {base : Nat} {T : TypeId} {v v0 : Value} {acc : List (Int × Int)} {a b : Int} (h : w.ownsRow base T 2 v (acc.length + 1) (spCells acc ++ spCells [(a, b)])) (hnil : v = .slice none 0 0 ↔ v0 = .slice none 0 0 ∧ 1 = 0) :
    ∃ (g c : Nat) (x : Int), v = .slice (some ⟨g, 0, none⟩) (acc.length + 1) c ∧ base ≤ g ∧ RowKit.Hid (w.ownsRow base T 2 (.slice (some ⟨g, 0, none⟩) (acc.length + 1) c) (acc ++ [(a, b)]).length (spCells (acc ++ [(a, b)]))) ∧
      w.cell? ⟨g, acc.length * 2 + 1, none⟩ = some (.int .i64 x) ∧ w.frozen? ⟨g, acc.length * 2 + 1, none⟩ = false := by
  obtain ⟨g, c, rfl⟩ := own_form h (fun e => by have := (hnil.1 e).2; omega)
  have hf := h.frozenAt (acc.length * 2 + 1)
  have hl := (h.lt g rfl).1
  have h' : w.ownsRow base T 2 (.slice (some ⟨g, 0, none⟩) (acc.length + 1) c) (acc ++ [(a, b)]).length (spCells (acc ++ [(a, b)])) := by rw [sp_app, List.length_append]; exact h
  obtain ⟨x, hx⟩ := last_cell (m := acc.length) h' (by simp)
  exact ⟨g, c, x, rfl, hl, Lib.hid h', hx, hf⟩
theorem box_grown {w1 w9 : World} {o : Obj} {row : Option Nat} {g j : Nat} {x : Value} (hq : w1.cell? ⟨g, j, none⟩ = some x) (hlt : g < w1.heap.size) (hg : (w1.alloc o).grownBy w9 row) (hne : row ≠ some g) : w9.cell? ⟨g, j, none⟩ = some x := by
  have hb : w9.heap[g]? = w1.heap[g]? := (hg.block g (by simp; omega) (fun e => hne e.symm)).trans (Below.heap_alloc w1 o g hlt)
  rw [World.cell?_of_block (w := w1) hb]
  exact hq
set_option maxHeartbeats 4000000 in
theorem rspans_any (s : ByteArray) (v1 : Value) (ts : List IT) (w : World) (B1 : Nat) (hB : B1 ≤ w.heap.size) (h1 : Rd w B1 3 v1 ts.length (itsCells ts)) (hl : ts.length ≤ 1099511627776) (hs : s.size ≤ 1099511627776) :
    Calls Try.prog 16 #[.string s, v1] w (SpPost (isB s [59, 59]) ts w) := by
  obtain ⟨hl1, A1, c1, rfl, hc1, h1⟩ := h1
  obtain ⟨i0, hi, hz0, hz1, hz2⟩ := info_parts Try.infoSp
  obtain ⟨n, hn⟩ : ∃ n, n = ts.length := ⟨_, rfl⟩
  obtain ⟨p, hp⟩ : ∃ p, p = isB s [59, 59] := ⟨_, rfl⟩
  rw [← hn] at h1 hc1 hl ⊢
  rw [← hp]
  have HP := Lib.hid hp
  have HH := Lib.hid h1
  have HN := Lib.hid hn
  have HST0 := Lib.hid (World.ownsRow_lit (e := 43) (size := 2) w #[] 0 (Nat.le_refl _) (by unfold maxLen; omega) rfl)
  clear h1 hn hl1 hp
  go_enter Try.func16, Try.ntmps16
  go_wp2
  go_loopw [5, 6, 7] (fun v ins i wr => ∃ k : Nat, k ≤ n ∧ i = .int .i64 k ∧ SpRel p ts w k v ins wr) (fun _ _ i _ => n - (intOf i).toNat)
  case atStart => exact ⟨0, by omega, rfl, rfl, HST0.out, (Below.refl _ _).alloc (Nat.le_refl _) _⟩
  case round =>
    obtain ⟨k, hk, rfl, hrel⟩ := hrel
    obtain ⟨rfl, hrel⟩ := hrel
    have HR := Lib.hid hrel
    have hsz : w.heap.size ≤ wr.heap.size := hrel.2.size
    clear hrel
    by_cases hlt : k < n
    · obtain ⟨g, o, rfl, hg, hr⟩ := HH.out (by omega)
      obtain ⟨t, ht, d0, d1, d2⟩ := rd_it hr HN.out hlt
      have c0 := (HR.out.2.cell (p := ⟨g, o + k * 3, none⟩) (by show g < _; omega)).trans d0
      have c1 := (HR.out.2.cell (p := ⟨g, o + k * 3 + 1, none⟩) (by show g < _; omega)).trans d1
      have c2 := (HR.out.2.cell (p := ⟨g, o + k * 3 + 2, none⟩) (by show g < _; omega)).trans d2
      have HT := Lib.hid ht
      have hkn : (k : Int) < n := by omega
      have hct := (sp_count p (ts.take k)).1
      rw [List.length_take] at hct
      have HNE := Lib.hid (sp_count p (ts.take k)).2
      have hst := sp_take p ht
      obtain ⟨x, hx⟩ : ∃ x, x = spSt p (ts.take k) := ⟨_, rfl⟩
      obtain ⟨ins, acc⟩ := x
      rw [← hx] at hct HNE HR hst ⊢
      have HX := Lib.hid hx
      have HST := Lib.hid hst
      clear hr ht d0 d1 d2 hx hst
      have hal : acc.length ≤ n := by simp only at hct; omega
      clear hct
      have HI := Lib.hid (fun W => ris_any s t { data := #[59, 59] } W (by omega))
      cases hE : p t
      · have HI0 := Lib.hid (fun W => (HI.out W).mono fun e w' h => ((⟨h.1.trans (by rw [semi2, ← HP.out, hE]), h.2⟩ : e = .returned (.bool false) ∧ Below W.heap.size W w')))
        have HE := Lib.hid hE
        clear hE
        cases ins
        · have HS2 := Lib.hid (st_new HST.out HE.out)
          go_wp2_with (first | (go_at_call 25; with_reducible (refine (HI0.out _).mono ?_); rintro e w' ⟨rfl, hb⟩; obtain ⟨q1, q2, q3⟩ := box_cells hb; have HBB := Lib.hid hb; clear hb) | (at_builtin; refine wpList_append_own _ rfl _ _ 34 rfl w.heap.size 43 i0 _ 2 16 Try.underlying34 hi hz0 hz1 hz2 rfl (by decide) _ _ _ rfl ((own_keep HR.out.1 HBB.out).alloc _) ⟨_, 0, none⟩ 1 1 (spCells [(t.a, t.b)]) rfl rfl (pair_news _ _ _) (sp_plain _) (by unfold maxLen; omega) (by omega) (by have := HBB.out.size; simp at this ⊢; omega) ?_; intro v9 w9 hown9 hgrow hnil; have HA := Lib.hid (after_new (acc := acc) hown9 hnil); have q4 := box_grown q2 q3 hgrow (fun e => by have := (HR.out.1.lt _ e).2; omega); have HG := Lib.hid hgrow; clear hown9 hgrow hnil; obtain ⟨g2, cc, x0, rfl, hg2, ho, f0, f1⟩ := HA.out; clear HA))
          go_region
          go_wp2
          go_roundw
          case rel =>
            refine ⟨k + 1, by omega, by go_num, ?_⟩
            have hx := own_last ho.out (by simp) t.b
            rw [setB_snoc] at hx
            exact rel_of HS2.out hx ((((((HR.out.2.alloc hsz _).trans (HBB.out.mono (by simp; omega))).alloc (by have := HBB.out.size; simp at this ⊢; omega) _).grown HG.out (by have := HBB.out.size; simp at this ⊢; omega) (fun g e => (HR.out.1.lt g e).1)).setCell hg2 _).drew)
          case measure => simp [intOf]; omega
        · have HS2 := Lib.hid (st_in HST.out HE.out)
          have hne : acc ≠ [] := HNE.out rfl
          obtain ⟨m, hm⟩ : ∃ m, acc.length = m + 1 := ⟨acc.length - 1, by have := List.length_pos_iff.2 hne; omega⟩
          have HNE2 := Lib.hid hne
          clear hne
          obtain ⟨g2, cc, hv⟩ := own_form HR.out.1 (fun e => by rcases HR.out.1.2 with ⟨_, h⟩ | ⟨_, _, _, h, _⟩; · simp only at h; omega
                                                                · rw [e] at h; simp at h)
          simp only [hm] at hv
          subst hv
          have HM := Lib.hid hm
          have hmn : m < n := by omega
          clear hm hal
          go_wp2_with (first | (go_at_call 25; with_reducible (refine (HI0.out _).mono ?_); rintro e w' ⟨rfl, hb⟩; obtain ⟨q1, q2, q3⟩ := box_cells hb; have HBB := Lib.hid hb; clear hb; have HO := Lib.hid (own_keep HR.out.1 HBB.out); obtain ⟨x0, f0⟩ := last_cell HO.out HM.out; have f1 := (HM.out ▸ HO.out).frozenAt (m * 2 + 1)))
          go_region
          go_wp2
          go_roundw
          case rel =>
            refine ⟨k + 1, by omega, by go_num, ?_⟩
            exact rel_of HS2.out (own_last HO.out HM.out t.b) ((((HR.out.2.alloc hsz _).trans (HBB.out.mono (by simp; omega))).setCell (HR.out.1.lt g2 rfl).1 _).drew)
          case measure => simp [intOf]; omega
      · have HI1 := Lib.hid (fun W => (HI.out W).mono fun e w' h => ((⟨h.1.trans (by rw [semi2, ← HP.out, hE]), h.2⟩ : e = .returned (.bool true) ∧ Below W.heap.size W w')))
        have HE := Lib.hid hE
        have HS2 := Lib.hid (st_end HST.out HE.out)
        clear hE
        go_wp2_with (first | (go_at_call 25; with_reducible (refine (HI1.out _).mono ?_); rintro e w' ⟨rfl, hb⟩; obtain ⟨q1, q2, q3⟩ := box_cells hb; have HBB := Lib.hid hb; clear hb))
        go_roundw
        case rel => exact ⟨k + 1, by omega, by go_num, rel_of HS2.out (own_keep HR.out.1 HBB.out) ((HR.out.2.alloc hsz _).trans (HBB.out.mono (by simp; omega)))⟩
        case measure => simp [intOf]; omega
    · go_wp2
      go_ret
      have e : k = n := by omega
      subst e
      refine ⟨_, rfl, ?_, HR.out.2⟩
      have h := HR.out.1
      rw [HN.out, List.take_length] at h
      exact h
end Go.Proofs.Ytnmebingjpnlgaa
