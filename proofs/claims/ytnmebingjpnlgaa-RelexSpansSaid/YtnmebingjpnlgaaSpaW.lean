/- RelexSpans answers true: the walk. -/
import Derived.Test.YtnmebingjpnlgaaSpaS
import Derived.Test.YtnmebingjpnlgaaRelM
namespace Go.Proofs.Ytnmebingjpnlgaa
open Go.RowKit Go.Lib
set_option maxRecDepth 100000
set_option linter.unusedVariables false
set_option linter.unusedSectionVars false

theorem ArgT.below {w w' : World} {v : Value} {ts : List IT} (h : ArgT w v ts) (hb : Below w.heap.size w w') : ArgT w' v ts := ⟨(h.1.below hb).more hb.size, h.2⟩
/-- spans of a list, as they lie behind a call. -/
def Spa (sp : List (Int × Int)) (v : Value) (w : World) : Prop := Rd w w.heap.size 2 v sp.length (spCells sp)
set_option maxHeartbeats 4000000 in
theorem relexSpans_walk (a0 : ByteArray) (v1 : Value) (ts : List IT) (w : World) (w0 : a0.size ≤ maxLen) (w1 : ArgT w v1 ts) : Calls Try.prog 4 #[.string a0, v1] w (TruePost w) := by
  unfold maxLen at w0
  have HA := Lib.hid w1
  clear w1
  obtain ⟨c, A, rfl⟩ : ∃ c A, v1 = .slice A ts.length c := by
    obtain ⟨_, A, c, e, _⟩ := HA.out.1
    exact ⟨c, A, e⟩
  obtain ⟨n, hn⟩ : ∃ n, n = ts.length := ⟨_, rfl⟩
  rw [← hn] at HA ⊢
  have HN := Lib.hid hn
  by_cases hsz : a0.size ≤ 20000 ∧ n ≤ 5000
  · obtain ⟨hs1, hs2⟩ := hsz
    obtain ⟨sp, hsp⟩ : ∃ sp, sp = spansF (isB a0 [59, 59]) ts := ⟨_, rfl⟩
    obtain ⟨lt, hlt⟩ : ∃ lt, lt = (Lx.lexF a0.data.toList).map toIT := ⟨_, rfl⟩
    obtain ⟨sl, hsl⟩ : ∃ sl, sl = spansF (isB a0 [59, 59]) lt := ⟨_, rfl⟩
    have h1 : sp.length ≤ 5000 := by rw [hsp]; exact Nat.le_trans (sp_count _ _).1 (by omega)
    have h2 : lt.length ≤ 20000 := by
      have := lex_count a0.data.toList
      rw [← sz] at this
      rw [hlt, List.length_map]
      omega
    have h3 : sl.length ≤ 20000 := by rw [hsl]; exact Nat.le_trans (sp_count _ _).1 h2
    have HSP := Lib.hid hsp
    have HLT := Lib.hid hlt
    have HSL := Lib.hid hsl
    clear hn hsp hlt hsl
    go_enter Try.func4, Try.ntmps4
    go_wp2_with fail
    refine (alive_any _).mono ?_
    rintro e w1 ⟨rfl, hb1⟩
    have A1 := Lib.hid (HA.out.below hb1)
    have B1 := Lib.hid hb1
    clear hb1
    go_wp2_with fail
    refine (copy_any _ ts w1 A1.out (by rw [← HN.out]; omega)).mono ?_
    rintro e w2 ⟨v2, rfl, hown2, hb2⟩
    have R2 := Lib.hid (Rd.of_own hown2)
    have A2 := Lib.hid (A1.out.below hb2)
    have B2 := Lib.hid (B1.out.trans (hb2.mono B1.out.size))
    clear hown2 hb2
    go_wp2_with fail
    refine (spans_any a0 v2 ts w2 _ (Nat.le_refl _) R2.out (by rw [← HN.out]; omega) (by omega)).mono ?_
    rintro e w3 ⟨v3, rfl, hown3, hb3⟩
    rw [← HSP.out] at hown3
    have S3 := Lib.hid (Rd.of_own hown3)
    have A3 := Lib.hid (A2.out.below hb3)
    have B3 := Lib.hid (B2.out.trans (hb3.mono B2.out.size))
    clear hown3 hb3
    go_wp2_with fail
    refine (rspans_any a0 _ ts w3 _ (Nat.le_refl _) (HN.out ▸ A3.out.1) (by rw [← HN.out]; omega) (by omega)).mono ?_
    rintro e w4 ⟨v4, rfl, hown4, hb4⟩
    rw [← HSP.out] at hown4
    have S4 := Lib.hid (Rd.of_own hown4)
    have S34 := Lib.hid (S3.out.below hb4)
    have B4 := Lib.hid (B3.out.trans (hb4.mono B3.out.size))
    clear hown4 hb4
    go_wp2_with fail
    refine (sameSpans_yes v3 v4 sp w4 _ _ S34.out S4.out (by omega)).mono ?_
    rintro e w5 ⟨rfl, q, rfl⟩
    have B5 := Lib.hid (below_drewN B4.out q)
    go_wp2_with fail
    refine (lex_any _ (by omega) _).mono ?_
    rintro e w6 ⟨v6, rfl, hown6, hb6⟩
    rw [its_toks, ← HLT.out, show (Lx.lexF a0.data.toList).length = lt.length by rw [HLT.out, List.length_map]] at hown6
    have R6 := Lib.hid (Rd.of_own hown6)
    have B6 := Lib.hid (B5.out.trans (hb6.mono B5.out.size))
    clear hown6 hb6
    go_wp2_with fail
    refine (spans_any a0 v6 lt w6 _ (Nat.le_refl _) R6.out (by omega) (by omega)).mono ?_
    rintro e w7 ⟨v7, rfl, hown7, hb7⟩
    rw [← HSL.out] at hown7
    have S7 := Lib.hid (Rd.of_own hown7)
    have B7 := Lib.hid (B6.out.trans (hb7.mono B6.out.size))
    clear hown7 hb7
    go_wp2_with fail
    refine (rlex_any _ (by omega) _).mono ?_
    rintro e w8 ⟨v8, rfl, hown8, hb8⟩
    rw [its_toks, ← HLT.out, show (Lx.lexF a0.data.toList).length = lt.length by rw [HLT.out, List.length_map]] at hown8
    have R8 := Lib.hid (Rd.of_own hown8)
    have S78 := Lib.hid ((S7.out.below hb8).more hb8.size)
    have B8 := Lib.hid (B7.out.trans (hb8.mono B7.out.size))
    clear hown8 hb8
    go_wp2_with fail
    refine (rspans_any a0 v8 lt w8 _ (Nat.le_refl _) R8.out (by omega) (by omega)).mono ?_
    rintro e w9 ⟨v9, rfl, hown9, hb9⟩
    rw [← HSL.out] at hown9
    have S9 := Lib.hid (Rd.of_own hown9)
    have S79 := Lib.hid (S78.out.below hb9)
    have B9 := Lib.hid (B8.out.trans (hb9.mono B8.out.size))
    clear hown9 hb9
    go_wp2_with fail
    refine (sameSpans_yes v7 v9 sl w9 _ _ S79.out S9.out (by omega)).mono ?_
    rintro e w10 ⟨rfl, q', rfl⟩
    go_wp2
    go_ret
    exact ⟨rfl, below_drewN B9.out q'⟩
  · go_enter Try.func4, Try.ntmps4
    go_wp2_with fail
    refine (alive_any _).mono ?_
    rintro e w1 ⟨rfl, hb1⟩
    clear hn
    by_cases h1 : a0.size ≤ 20000
    · have h2 : ¬ n ≤ 5000 := fun h => hsz ⟨h1, h⟩
      clear hsz
      go_wp2
      all_goals (go_ret; exact ⟨rfl, hb1⟩)
    · clear hsz
      go_wp2
      all_goals (go_ret; exact ⟨rfl, hb1⟩)
end Go.Proofs.Ytnmebingjpnlgaa
