/- The walks of UtfCounts and UtfThere. -/
import Derived.Test.YtdeihlbnlogjcaaDoorUtfJ
namespace Go.Proofs.YtdeihlbnlogjcaaDoor
open Go.RowKit Go.Lib Go.Shelf
set_option maxRecDepth 100000
set_option linter.unusedVariables false

theorem Ints.slice {B : Nat} {l : List Int} {v : Value} {w : World} (h : Ints B l v w) : ∃ A c, v = .slice A l.length c ∧ l.length ≤ c := by
  obtain ⟨-, A, c, e, hc, -⟩ := h.rd
  exact ⟨A, c, e, hc⟩
theorem counts_of (L : List UInt8) (h : validD L = true) : (Ut.runesF L).length ≤ (Ut.unitsF (Ut.runesF L)).length ∧ (Ut.unitsF (Ut.runesF L)).length ≤ L.length ∧ L.length ≤ 3 * (Ut.unitsF (Ut.runesF L)).length := by
  obtain ⟨h1, h2, -⟩ := Ut.valid_all L h
  have := Ut.counts _ h2
  rwa [h1] at this
set_option maxHeartbeats 2000000 in
theorem utfCounts_walk (s : ByteArray) (w : World) (hs : s.size ≤ maxLen) (hT : Tabs w) : Calls Tryd.prog 10 #[.string s] w (TruePost w) := by
  go_enter Tryd.func10, Tryd.ntmps10
  go_wp2_with fail
  refine (alive_any w hT).mono ?_
  rintro e w1 ⟨rfl, hb1⟩
  by_cases hlen : s.size > 20000
  · have hl : (s.size : Int) > 20000 := by omega
    have HB := Lib.hid hb1
    clear hb1 hlen
    go_wp2
    go_ret
    exact ⟨rfl, HB.out⟩
  · have hl : ¬ (s.size : Int) > 20000 := by omega
    have HT1 := Lib.hid (Utf8Tabs_below hT hb1)
    have HB1 := Lib.hid hb1
    clear hb1
    cases hv : validD s.data.toList
    · go_wp2_with fail
      refine (runes_any vs s w1 (by omega) HT1.out).mono ?_
      rintro e w2 ⟨h, hb2⟩
      rw [if_neg (by rw [hv]; simp)] at h
      subst h
      have HB2 := Lib.hid (HB1.out.trans (hb2.mono HB1.out.size))
      have HT2 := Lib.hid (Utf8Tabs_below HT1.out hb2)
      clear hb2
      go_wp2_with fail
      refine (units_any s w2 (by omega) HT2.out).mono ?_
      rintro e w3 ⟨h, hb3⟩
      rw [if_neg (by rw [hv]; simp)] at h
      subst h
      have HB3 := Lib.hid (HB2.out.trans (hb3.mono HB2.out.size))
      clear hb3 hv
      go_wp2
      go_ret
      exact ⟨rfl, HB3.out⟩
    · have hct := counts_of _ hv
      have hL : s.data.toList.length = s.size := by simp
      rw [hL] at hct
      go_wp2_with fail
      refine (runes_any vs s w1 (by omega) HT1.out).mono ?_
      rintro e w2 ⟨h, hb2⟩
      rw [if_pos hv] at h
      obtain ⟨v, rfl, hi⟩ := h
      obtain ⟨A, c, rfl, hc⟩ := hi.slice
      have HB2 := Lib.hid (HB1.out.trans (hb2.mono HB1.out.size))
      have HT2 := Lib.hid (Utf8Tabs_below HT1.out hb2)
      clear hb2 hi
      go_wp2_with fail
      refine (units_any s w2 (by omega) HT2.out).mono ?_
      rintro e w3 ⟨h, hb3⟩
      rw [if_pos hv] at h
      obtain ⟨v, rfl, hi⟩ := h
      obtain ⟨A2, c2, rfl, hc2⟩ := hi.slice
      have HB3 := Lib.hid (HB2.out.trans (hb3.mono HB2.out.size))
      clear hb3 hv hi
      obtain ⟨a, ha⟩ : ∃ a, a = (Ut.runesF s.data.toList).length := ⟨_, rfl⟩
      obtain ⟨b, hb⟩ : ∃ b, b = (Ut.unitsF (Ut.runesF s.data.toList)).length := ⟨_, rfl⟩
      rw [← ha, ← hb] at hct
      rw [← ha] at hc ⊢
      rw [← hb] at hc2 ⊢
      obtain ⟨c1, c2, c3⟩ := hct
      have d1 : (a : Int) ≤ b := by omega
      have d2 : (b : Int) ≤ s.size := by omega
      have d3 : (s.size : Int) ≤ 3 * b := by omega
      clear ha hb hL
      go_wp2
      go_ret
      exact ⟨rfl, HB3.out⟩
end Go.Proofs.YtdeihlbnlogjcaaDoor
