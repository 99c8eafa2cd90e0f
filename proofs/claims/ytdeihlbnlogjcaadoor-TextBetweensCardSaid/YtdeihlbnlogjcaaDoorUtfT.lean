/- The walk of UtfThere. -/
import Derived.Test.YtdeihlbnlogjcaaDoorUtfJ
namespace Go.Proofs.YtdeihlbnlogjcaaDoor
open Go.RowKit Go.Lib Go.Shelf
set_option maxRecDepth 100000
set_option linter.unusedVariables false
set_option linter.unusedSimpArgs false

theorem off_facts (L : List UInt8) (h : validD L = true) (n x : Int) (hx : Ut.offF 0 0 (Ut.runesF L) n = some x) :
    Ut.unitF 0 0 (Ut.runesF L) x = some n ∧ 0 ≤ x ∧ x ≤ L.length ∧ ∀ m y, Ut.offF 0 0 (Ut.runesF L) m = some y → (n < m → x < y) ∧ (m < n → y < x) ∧ (n = m → x = y) := by
  obtain ⟨h1, h2, -⟩ := Ut.valid_all L h
  have hle := Ut.off_le _ _ _ _ _ hx
  rw [h1] at hle
  refine ⟨Ut.off_unit _ h2 _ _ _ _ hx, (Ut.off_ge _ _ _ _ _ hx).1, by omega, fun m y hy => ⟨fun h => Ut.off_inj _ h2 _ _ _ _ _ _ hx hy h, fun h => Ut.off_inj _ h2 _ _ _ _ _ _ hy hx h, ?_⟩⟩
  rintro rfl
  exact Option.some.inj (hx.symm.trans hy)
set_option maxHeartbeats 2000000 in
theorem utfThere_walk (s : ByteArray) (n m : Int) (w : World) (hs : s.size ≤ maxLen) (_ : (Lit.int .i64 n).wf = true) (_ : (Lit.int .i64 m).wf = true) (hT : Tabs w) : Calls Tryd.prog 7 #[.string s, .int .i64 n, .int .i64 m] w (TruePost w) := by
  go_enter Tryd.func7, Tryd.ntmps7
  go_wp2_with fail
  refine (alive_any w hT).mono ?_
  rintro e w1 ⟨rfl, hb1⟩
  by_cases hlen : s.size > 5000
  · have hl : (s.size : Int) > 5000 := by omega
    have HB := Lib.hid hb1
    clear hb1 hlen
    go_wp2
    go_ret
    exact ⟨rfl, HB.out⟩
  · have hl : ¬ (s.size : Int) > 5000 := by omega
    have HT1 := Lib.hid (Utf8Tabs_below hT hb1)
    have HB1 := Lib.hid hb1
    clear hb1
    go_wp2_with fail
    refine (offset_any s n w1 (by omega) HT1.out).mono ?_
    rintro e w2 ⟨h, hb2⟩
    have HB2 := Lib.hid (HB1.out.trans (hb2.mono HB1.out.size))
    have HT2 := Lib.hid (Utf8Tabs_below HT1.out hb2)
    clear hb2
    cases hv : validD s.data.toList
    · rw [hv, if_neg (by simp)] at h
      subst h
      go_wp2
      go_ret
      exact ⟨rfl, HB2.out⟩
    · rw [hv, if_pos rfl] at h
      cases ho : Ut.offF 0 0 (Ut.runesF s.data.toList) n with
      | none =>
        rw [ho] at h
        subst h
        go_wp2
        go_ret
        exact ⟨rfl, HB2.out⟩
      | some x =>
        rw [ho] at h
        subst h
        obtain ⟨hu, hx0, hx1, hxm⟩ := off_facts _ hv _ _ ho
        rw [show s.data.toList.length = s.size by simp] at hx1
        go_wp2_with fail
        refine (unit_any s x w2 (by omega) HT2.out).mono ?_
        rintro e w3 ⟨h, hb3⟩
        rw [hv, if_pos rfl, hu] at h
        subst h
        have HB3 := Lib.hid (HB2.out.trans (hb3.mono HB2.out.size))
        have HT3 := Lib.hid (Utf8Tabs_below HT2.out hb3)
        clear hb3
        have hx2 : ¬ x < 0 := by omega
        have hx3 : ¬ x > s.size := by omega
        go_wp2_with fail
        refine (offset_any s m w3 (by omega) HT3.out).mono ?_
        rintro e w4 ⟨h, hb4⟩
        rw [hv, if_pos rfl] at h
        have HB4 := Lib.hid (HB3.out.trans (hb4.mono HB3.out.size))
        clear hb4
        cases hy : Ut.offF 0 0 (Ut.runesF s.data.toList) m with
        | none =>
          rw [hy] at h
          subst h
          clear hxm hu ho hv hy
          go_wp2
          go_ret
          exact ⟨rfl, HB4.out⟩
        | some y =>
          rw [hy] at h
          subst h
          obtain ⟨k1, k2, k3⟩ := hxm m y hy
          clear hxm hu ho hv hy
          rcases Int.lt_trichotomy n m with hnm | hnm | hnm
          · have a1 := k1 hnm
            have a2 : (x == y) = false := by simp; omega
            have a3 : (n == m) = false := by simp; omega
            clear k1 k2 k3
            go_wp2
            go_ret
            exact ⟨by simp [a2, a3], HB4.out⟩
          · have a1 := k3 hnm
            clear k1 k2 k3
            subst hnm a1
            go_wp2
            go_ret
            exact ⟨by simp, HB4.out⟩
          · have a1 := k2 hnm
            have a2 : (x == y) = false := by simp; omega
            have a3 : (n == m) = false := by simp; omega
            have a4 : ¬ n < m := by omega
            have a5 : ¬ x < y := by omega
            clear k1 k2 k3
            go_wp2
            go_ret
            exact ⟨by simp [a2, a3], HB4.out⟩
end Go.Proofs.YtdeihlbnlogjcaaDoor
