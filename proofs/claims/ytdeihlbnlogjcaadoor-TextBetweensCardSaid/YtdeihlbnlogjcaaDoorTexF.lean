/- text's Place. -/
import Derived.Test.YtdeihlbnlogjcaaDoorTexP
import Derived.Test.YtdeihlbnlogjcaaDoorTexE
namespace Go.Proofs.YtdeihlbnlogjcaaDoor
open Go.RowKit Go.Lib Go.Shelf
set_option maxRecDepth 100000
set_option linter.unusedVariables false

/-- is there a place at this byte? -/
def isPl (L : List UInt8) (o : Int) : Bool := decide (0 ≤ o) && decide (o ≤ L.length) && validD (L.take o.toNat)
def plL (L : List UInt8) (o : Int) : Int := if validD L && isPl L o then (posB (L.take o.toNat)).1 else 0
def plC (L : List UInt8) (o : Int) : Int := if validD L && isPl L o then (posB (L.take o.toNat)).2 else 0
def plK (L : List UInt8) (o : Int) : Int := if validD L then (if isPl L o then 0 else 70) else 40
theorem take_str (s : ByteArray) (k : Nat) (h : k ≤ s.size) : (s.extract 0 k).data.toList = s.data.toList.take k ∧ (s.extract 0 k).size = k := by
  constructor
  · rw [ByteArray.data_extract, Array.toList_extract, List.extract_eq_take_drop]
    simp
  · simp
    omega
theorem uniA_wf (L : List UInt8) (n : Int) : 0 ≤ uniA L n := by
  unfold uniA
  split
  · cases hx : Ut.unitF 0 0 (Ut.runesF L) n with
    | none => exact Int.le_refl _
    | some x =>
      have key : ∀ (rs : List Int) (o u n x : Int), Ut.unitF o u rs n = some x → u ≤ x := by
        intro rs
        induction rs with
        | nil =>
          intro o u n x h
          rw [Ut.unitF] at h
          split at h
          · simp only [Option.some.injEq] at h; omega
          · cases h
        | cons r rs ih =>
          intro o u n x h
          rw [Ut.unitF] at h
          have := Ut.width_pos r
          split at h
          · simp only [Option.some.injEq] at h; omega
          · have := ih _ _ _ _ h; omega
      exact key _ _ _ _ _ hx
  · exact Int.le_refl _
set_option maxHeartbeats 1000000 in
theorem place_any (s : ByteArray) (o : Int) (w : World) (hs : s.size ≤ 1099511627) (hT : Tabs w) :
    Calls Tryd.prog 44 #[.string s, .int .i64 o] w fun e w' => e = .returned (.tuple #[.int .i64 (plL s.data.toList o), .int .i64 (plC s.data.toList o), .int .i64 (plK s.data.toList o)]) ∧ Below w.heap.size w w' := by
  have hL : s.data.toList.length = s.size := by simp
  go_enter Tryd.func44, Tryd.ntmps44
  go_wp2_with fail
  refine (isText_any s w (by omega) hT).mono ?_
  rintro e w1 ⟨rfl, hb1⟩
  have HB1 := Lib.hid hb1
  have HT1 := Lib.hid (Utf8Tabs_below hT hb1)
  have hs1 := hb1.size
  clear hb1
  cases hv : validD s.data.toList
  · have HF := Lib.hid (show plL s.data.toList o = 0 ∧ plC s.data.toList o = 0 ∧ plK s.data.toList o = 40 by simp [plL, plC, plK, hv])
    clear hv hL
    go_wp2
    go_ret3
    exact ⟨by rw [HF.out.1, HF.out.2.1, HF.out.2.2]; rfl, HB1.out⟩
  · by_cases h0 : o < 0
    · have HF := Lib.hid (show plL s.data.toList o = 0 ∧ plC s.data.toList o = 0 ∧ plK s.data.toList o = 70 by
        have : decide (0 ≤ o) = false := by simpa using h0
        simp [plL, plC, plK, hv, isPl, this])
      clear hv hL
      go_wp2
      go_ret3
      exact ⟨by rw [HF.out.1, HF.out.2.1, HF.out.2.2]; rfl, HB1.out⟩
    · by_cases h1 : o > s.size
      · have HF := Lib.hid (show plL s.data.toList o = 0 ∧ plC s.data.toList o = 0 ∧ plK s.data.toList o = 70 by
          have : decide (o ≤ (s.data.toList.length : Int)) = false := by simp; omega
          simp only [plL, plC, plK, hv, isPl, this]
          simp)
        clear hv hL
        go_wp2
        go_ret3
        exact ⟨by rw [HF.out.1, HF.out.2.1, HF.out.2.2]; rfl, HB1.out⟩
      · obtain ⟨m, rfl⟩ : ∃ m : Nat, o = m := ⟨o.toNat, by omega⟩
        have hm : m ≤ s.size := by omega
        obtain ⟨ht1, ht2⟩ := take_str s m hm
        have HX1 := Lib.hid ht1
        have HX2 := Lib.hid ht2
        obtain ⟨capF, objF, hcb, hnews, hcap⟩ := conv_bytes (P := Tryd.prog) (s.extract 0 m) 9 22 5 Tryd.underlying9 Tryd.underlying22 Tryd.underlying5
        obtain ⟨p, hp⟩ : ∃ p : Nat, p = Ut.validP (s.extract 0 m).data.toList := ⟨_, rfl⟩
        have hv0 : Calls Tryd.prog 21 #[.slice (some ⟨w1.heap.size, 0, none⟩) (s.extract 0 m).size (capF w1)] ((w1.alloc (objF w1)).drew) fun e w' => e = .returned (.int .i64 (p : Nat)) ∧ Below w1.heap.size w1 w' := by
          rw [hp]
          exact valid_conv (s.extract 0 m) (by omega) w1.heap.size (capF w1) (objF w1) w1 w1.drew rfl ((Below.refl _ _).drew) rfl (hcap _) HT1.out (fun j u hu => hnews w1 w1.drew j u rfl hu)
        rw [ht2] at hv0
        have HV := Lib.hid hv0
        clear hv0
        have hvi := Ut.validD_iff (s.extract 0 m).data.toList
        have hpl : p ≤ m := by
          rw [hp]
          have := (Ut.validP_front (s.extract 0 m).data.toList.length _ (Nat.le_refl _)).1
          rw [ht1, List.length_take] at this
          rw [ht1]
          omega
        rw [← hp, ht1, List.length_take, Nat.min_eq_left (by omega)] at hvi
        have HVI := Lib.hid hvi
        have HPL := Lib.hid (show isPl s.data.toList m = validD (s.data.toList.take m) by
          unfold isPl
          rw [Int.toNat_natCast, decide_eq_true (by omega), decide_eq_true (by omega)]
          rfl)
        have HW := Lib.hid hv
        clear hnews hcap hp ht1 ht2 hvi hv hL
        by_cases hpm : p = m
        · have HVD := Lib.hid (HVI.out.2 hpm)
          have hpm2 : ¬ (p : Int) < m := by omega
          obtain ⟨S, hS1, hS2, hS3, hS4, hS5⟩ := last_spec (s.extract 0 m) (by rw [HX1.out]; exact HVD.out)
          have HLI := Lib.hid (fun W => (last_lf (s.extract 0 m) (by have := HX2.out; omega) W).mono fun e w' h => (show e = .returned (.int .i64 ((S : Int) - 1)) ∧ W = w' from ⟨by rw [h.1]; congr 3; omega, h.2.symm⟩))
          rw [HX2.out] at hS2 hS3 hS4
          rw [HX1.out] at hS3 hS4 hS5
          obtain ⟨u, hu⟩ : ∃ u, u = uniA ((s.data.toList.take m).drop S) ((m : Int) - S) := ⟨_, rfl⟩
          rw [← hu] at hS3
          have hu0 : 0 ≤ u := by rw [hu]; exact uniA_wf _ _
          have HU := Lib.hid (And.intro hu hS4)
          obtain ⟨n, hn⟩ : ∃ n, n = Lib.countByte (s.data.toList.take m) 10 := ⟨_, rfl⟩
          rw [← hn] at hS5
          have hnm : n ≤ m := by
            rw [hn]
            refine Nat.le_trans (count_le _) ?_
            rw [List.length_take]
            omega
          have HN := Lib.hid hn
          have HF := Lib.hid (show plL s.data.toList m = n ∧ plC s.data.toList m = u ∧ plK s.data.toList m = 0 by
            unfold plL plC plK
            rw [HW.out, HPL.out, HVD.out, Int.toNat_natCast, ← hS5, ← hS3]
            simp)
          have HDS := Lib.hid (show ((s.extract 0 m).extract S m).data.toList = (s.data.toList.take m).drop S by
            have h := drop_str (s.extract 0 m) S (by rw [HX2.out]; omega)
            rw [HX2.out, HX1.out] at h
            exact h)
          obtain ⟨Y, hY⟩ : ∃ Y, Y = (s.extract 0 m).extract S m := ⟨_, rfl⟩
          have HY := Lib.hid hY
          have hYs : Y.size ≤ m := by
            rw [hY, ByteArray.size_extract]
            have := HX2.out
            omega
          rw [← hY] at HDS
          have HLN := Lib.hid (fun W => lines_any (s.extract 0 m) (by have := HX2.out; omega) (by rw [HX1.out, HX2.out, ← HN.out]; omega) W)
          rw [HX1.out, ← HN.out] at HLN
          clear hY
          clear hu hS3 hS4 hS5 hS1 hn
          go_wp2_with (first | (go_at_call 21; with_reducible (refine HV.out.mono ?_); rintro e w2 ⟨rfl, hb2⟩; have HB2 := Lib.hid (HB1.out.trans (hb2.mono hs1)); have HT2 := Lib.hid (Utf8Tabs_below HT1.out hb2); clear hb2) | (go_at_call 66; with_reducible (refine (HLI.out _).mono ?_); rintro e w3 ⟨rfl, rfl⟩))
          go_wp2_with fail
          rw [← HY.out]
          refine (unit_any Y ((m : Int) - S) w2 (by omega) HT2.out).mono ?_
          rintro e w4 h
          obtain ⟨rfl, hb4⟩ := h.one
          rw [HDS.out, HU.out.2, ← HU.out.1]
          have HB4 := Lib.hid (HB2.out.trans (hb4.mono HB2.out.size))
          clear hb4 h
          go_wp2_with (first | (go_at_call 42; with_reducible (refine (HLN.out _).mono ?_); rintro e w5 ⟨rfl, rfl⟩))
          go_ret3
          exact ⟨by rw [HF.out.1, HF.out.2.1, HF.out.2.2]; rfl, HB4.out⟩
        · have hpm2 : (p : Int) < m := by omega
          have HF := Lib.hid (show plL s.data.toList m = 0 ∧ plC s.data.toList m = 0 ∧ plK s.data.toList m = 70 by
            have : validD (s.data.toList.take m) = false := by
              cases h : validD (s.data.toList.take m)
              · rfl
              · exact absurd (HVI.out.1 h) hpm
            unfold plL plC plK
            rw [HW.out, HPL.out, this]
            simp)
          go_wp2_with (go_at_call 21; with_reducible (refine HV.out.mono ?_); rintro e w2 ⟨rfl, hb2⟩; have HB2 := Lib.hid (HB1.out.trans (hb2.mono hs1)); clear hb2)
          go_ret3
          exact ⟨by rw [HF.out.1, HF.out.2.1, HF.out.2.2]; rfl, HB2.out⟩
end Go.Proofs.YtdeihlbnlogjcaaDoor
