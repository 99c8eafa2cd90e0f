/- The reference's length. -/
import Derived.Test.YtphnplpgeoleeaaDoorFraRc
import Derived.Test.YtphnplpgeoleeaaDoorFraRd
namespace Go.Proofs.YtphnplpgeoleeaaDoor
open Go.RowKit Go.Lib Go.Shelf
set_option maxRecDepth 100000
set_option linter.unusedVariables false
set_option linter.unusedSectionVars false

def LenP (H : List UInt8) (w : World) (e : Ending) (w' : World) : Prop := e = .returned (.int .i64 (lengthZ H)) ∧ Below w.heap.size w w'
set_option maxHeartbeats 2000000 in
theorem length_any (v : Value) (H : List UInt8) (w : World) (h : ArgB w v H) (hl : H.length ≤ 1000000) (hh : hendF H = H.length) (h0 : 0 < H.length) : Calls Tryd.prog 28 #[v] w (LenP H w) := by
  obtain ⟨T0, hT0, hg0⟩ := goodT_head hh h0
  have hln : H.length = T0.length + 2 := by rw [hT0, List.length_append]; rfl
  have HI0 := Lib.hid (lenI_start hT0 hg0)
  obtain ⟨A, c, rfl, hc⟩ := h.shape
  have HA0 := Lib.hid (show ArgB w (.slice A T0.length c) T0 by
    have h2 := h.take T0.length (by omega)
    rwa [hT0, List.take_left] at h2)
  rw [hln] at hc hl ⊢
  clear h hh h0 hT0 hg0 hln
  obtain ⟨n0, hn0⟩ : ∃ n0, n0 = T0.length := ⟨_, rfl⟩
  rw [← hn0] at HA0 hc hl ⊢
  clear hn0
  go_enter Tryd.func28, Tryd.ntmps28
  go_wp2
  go_loopw [0, 3] (fun vv zv wr => ∃ (A : Option Addr) (m c : Nat) (T : List UInt8) (z : Int), vv = .slice A m c ∧ zv = .int .i64 z ∧ m ≤ c ∧ m ≤ 1000000 ∧ -1 ≤ z ∧ RowKit.Hid (ArgB w (.slice A m c) T) ∧ RowKit.Hid (LenI H T z) ∧ RowKit.Hid (Below w.heap.size w wr)) (fun vv _ _ => match vv with | .slice _ n _ => n | _ => 0)
  case atStart => exact ⟨_, _, _, T0, -1, rfl, rfl, by omega, by omega, by omega, HA0.out, HI0.out, Below.refl _ _⟩
  case round =>
  obtain ⟨A1, m, c1, T, z, rfl, rfl, hmc, hm, hz, HA, HI, HB⟩ := hrel
  have HL := Lib.hid (argB_len HA.out)
  by_cases hm0 : m = 0
  · subst hm0
    have HR := Lib.hid (show lengthZ H = z from lenI_end (by
      have h := HI.out
      rwa [List.eq_nil_of_length_eq_zero HL.out] at h))
    go_wp2
    go_ret
    exact ⟨by rw [HR.out]; rfl, HB.out⟩
  obtain ⟨K, hK0, hK2, hKo, hKn, hKc, hKg⟩ := goodT_step HI.out.choose_spec.choose_spec.choose_spec.2.2.2 (fun h => by
    have h2 := HL.out
    rw [h] at h2
    simp at h2
    omega)
  have HLT := Lib.hid (linesT_step HI.out.choose_spec.choose_spec.choose_spec.2.2.2 (fun h => by
    have h2 := HL.out
    rw [h] at h2
    simp at h2
    omega) hKc hK0 hK2 hKg)
  rw [HL.out] at hK2
  have HKO := Lib.hid hKo
  have HKN := Lib.hid hKn
  have HKG := Lib.hid hKg
  have HAW := Lib.hid (argB_below HA.out HB.out)
  have HAT := Lib.hid (fun (i : Nat) (hi : i ≤ m) => show Calls Tryd.prog 32 #[.slice A1 m c1, .int .i64 (i : Nat), .string ⟨#[13, 10]⟩] wr (AtP (Lib.occAt T nl i) wr) from at_any (.slice A1 m c1) T i ⟨#[13, 10]⟩ wr HAW.out (by rw [HL.out]; exact hi) (by decide) (by decide) (by rw [HL.out]; omega))
  clear hKo hKn hKg hKc
  have hmp : 0 < m := by omega
  obtain ⟨g, o, x0, rfl, -, -⟩ := argB_get HA.out hmp
  clear hm0
  go_wp2
  go_loopw [4] (fun kv wx => ∃ k : Nat, kv = .int .i64 k ∧ k ≤ K ∧ wx = wr) (fun kv _ => K - (RowKit.intOf kv).toNat)
  case atStart => exact ⟨0, rfl, Nat.zero_le _, rfl⟩
  case round =>
  obtain ⟨k, rfl, hk, hwx⟩ := hrel
  subst hwx
  go_wp2_with fail
  refine (HAT.out k (by omega)).mono ?_
  rintro e w2 ⟨rfl, rfl⟩
  by_cases hkK : k < K
  · rw [HKN.out k hkK]
    go_wp2
    exact ⟨⟨k + 1, by go_num, by omega, trivial⟩, by simp [RowKit.intOf] <;> omega⟩
  obtain rfl : k = K := by omega
  rw [HKO.out]
  rename World => w3
  have HFI := Lib.hid (field_any (.slice (some ⟨g, o, none⟩) k c1) (T.take k) w3 (HAW.out.take k (by omega)) (by rw [List.length_take, HL.out]; omega))
  have hkc : k ≤ c1 := by omega
  go_wp2_with fail
  refine HFI.out.mono ?_
  rintro e w4 ⟨rfl, hb4⟩
  have HB9 := Lib.hid (HB.out.trans (hb4.mono HB.out.size))
  have hNX := lenI_next HI.out HLT.out HKG.out
  clear hb4
  cases hf : fieldF (T.take k) with
  | none =>
    have HR := Lib.hid (lenI_none HI.out HLT.out hf)
    rw [show fieldZ (T.take k) = -2 by unfold fieldZ; rw [hf]]
    clear hf hNX
    go_wp2
    go_ret
    exact ⟨by rw [HR.out]; rfl, HB9.out⟩
  | some q =>
  cases q with
  | none =>
    have HIN := Lib.hid (hNX.1 hf)
    rw [show fieldZ (T.take k) = -1 by unfold fieldZ; rw [hf]]
    clear hf hNX
    by_cases hcK : c1 = k + 2
    · have hmK : m = k + 2 := by omega
      have HR3 := argB_rest HA.out (m := k + 2) hK2 hmc
      rw [if_pos hcK] at HR3
      subst hcK
      subst hmK
      have HR4 := Lib.hid HR3
      clear HR3
      go_wp2
      exact ⟨⟨_, _, _, _, _, rfl, rfl, by omega, by omega, by omega, HR4.out, HIN.out, HB9.out⟩, by show k + 2 - (k + 2) < k + 2; omega⟩
    · have HR3 := argB_rest HA.out (m := k + 2) hK2 hmc
      rw [if_neg hcK, add_off] at HR3
      have HR4 := Lib.hid HR3
      clear HR3
      go_wp2
      exact ⟨⟨_, _, _, _, _, rfl, rfl, by omega, by omega, by omega, HR4.out, HIN.out, HB9.out⟩, by simp; omega⟩
  | some j =>
    have hjl := fieldF_le hf
    rw [show fieldZ (T.take k) = (j : Int) by unfold fieldZ; rw [hf]]
    by_cases hz0 : 0 ≤ z
    · have hzd := decide_eq_true hz0
      have HR := Lib.hid (lenI_two HI.out hz0 HLT.out hf)
      clear hf hNX
      go_wp2
      go_ret
      exact ⟨by rw [HR.out]; rfl, HB9.out⟩
    · have hzd := decide_eq_false hz0
      have HIN := Lib.hid (hNX.2 j hf (by omega))
      clear hf hNX
      by_cases hcK : c1 = k + 2
      · have hmK : m = k + 2 := by omega
        have HR3 := argB_rest HA.out (m := k + 2) hK2 hmc
        rw [if_pos hcK] at HR3
        subst hcK
        subst hmK
        have HR4 := Lib.hid HR3
        clear HR3
        go_wp2
        exact ⟨⟨_, _, _, _, _, rfl, rfl, by omega, by omega, by omega, HR4.out, HIN.out, HB9.out⟩, by show k + 2 - (k + 2) < k + 2; omega⟩
      · have HR3 := argB_rest HA.out (m := k + 2) hK2 hmc
        rw [if_neg hcK, add_off] at HR3
        have HR4 := Lib.hid HR3
        clear HR3
        go_wp2
        exact ⟨⟨_, _, _, _, _, rfl, rfl, by omega, by omega, by omega, HR4.out, HIN.out, HB9.out⟩, by simp; omega⟩
end Go.Proofs.YtphnplpgeoleeaaDoor
