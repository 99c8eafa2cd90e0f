/- The first rune of bytes, by definition: plain mathematics. -/
import Derived.Test.YtdeihlbnlogjcaaDoorUtfN
namespace Go.Proofs.YtdeihlbnlogjcaaDoor.Ut
open Go.RowKit Go.Lib
set_option linter.unusedVariables false

theorem first_hit (L : List UInt8) (r : Int) (n : Nat) (h : isR r = true) (he : encodeRune r = L.take n) (hn : n ≤ L.length) : okH L ∧ decodeL L = (r.toNat, n) := by
  have e : L = encodeRune r ++ L.drop n := by rw [he, List.take_append_drop]
  have hd := dec_enc r h (L.drop n)
  rw [← e] at hd
  have hl : (encodeRune r).length = n := by rw [he, List.length_take]; omega
  rw [hl] at hd
  exact ⟨hd.2, hd.1⟩
def bI (L : List UInt8) (i : Nat) : Int := ((L.getD i 0).toNat : Int)
def rk (L : List UInt8) : Nat → Int
  | 1 => bI L 0
  | 2 => (bI L 0 - 192) * 64 + bI L 1 - 128
  | 3 => (bI L 0 - 224) * 4096 + (bI L 1 - 128) * 64 + bI L 2 - 128
  | 4 => (bI L 0 - 240) * 262144 + (bI L 1 - 128) * 4096 + (bI L 2 - 128) * 64 + bI L 3 - 128
  | _ => 0
theorem rk_ok (L : List UInt8) (hne : L ≠ []) (ok : okH L) : rk L (decodeL L).2 = (decodeL L).1 ∧ encodeRune ((decodeL L).1 : Int) = L.take (decodeL L).2 ∧ 1 ≤ (decodeL L).2 ∧ (decodeL L).2 ≤ 4 ∧ (decodeL L).2 ≤ L.length := by
  have hs := dec_split L hne ok
  have hi := dec_isR L ok
  have hK2 := decodeL_le L hne
  have hK1 := decodeL_width L
  obtain ⟨R, hR⟩ : ∃ R, R = (decodeL L).1 := ⟨_, rfl⟩
  obtain ⟨K, hK⟩ : ∃ K, K = (decodeL L).2 := ⟨_, rfl⟩
  rw [← hR] at hi hs ⊢
  rw [← hK] at hs hK2 hK1 ⊢
  have hlen : (encodeRune (R : Int)).length = K := by
    have := congrArg List.length hs
    rw [List.length_append, List.length_drop] at this
    omega
  have htk : encodeRune (R : Int) = L.take K := by
    rw [← hlen]
    conv => rhs; rw [hs]
    simp
  have hel := (enc_len _ hi).2.1
  refine ⟨?_, htk, by omega, by omega, hK2⟩
  have hb : ∀ i, i < K → bI L i = (((encodeRune (R : Int)).getD i 0).toNat : Int) := fun i hik => by
    unfold bI
    rw [hs, List.getD_eq_getElem?_getD, List.getElem?_append_left (by omega), ← List.getD_eq_getElem?_getD]
  have hu : ∀ x : Int, 0 ≤ x → x < 256 → ((x.toNat.toUInt8).toNat : Int) = x := fun x h0 h1 => by rw [u8 x h0 h1]; omega
  rcases enc_cases _ hi with ⟨h0, h1, e⟩ | ⟨h0, h1, e⟩ | ⟨h0, h1, h2, e⟩ | ⟨h0, h1, e⟩
  · have el : encodeRune (R : Int) = [((R : Int)).toNat.toUInt8] := by unfold encodeRune; rw [e]; rfl
    have hK1 : K = 1 := by rw [← hlen, el]; rfl
    subst hK1
    show bI L 0 = _
    rw [hb 0 (by omega), el]
    exact hu _ (by omega) (by omega)
  · have el : encodeRune (R : Int) = [(192 + (R : Int) / 64).toNat.toUInt8, (128 + (R : Int) % 64).toNat.toUInt8] := by unfold encodeRune; rw [e]; rfl
    have hK1 : K = 2 := by rw [← hlen, el]; rfl
    subst hK1
    show (bI L 0 - 192) * 64 + bI L 1 - 128 = _
    rw [hb 0 (by omega), hb 1 (by omega), el]
    show ((((192 + (R : Int) / 64).toNat.toUInt8).toNat : Int) - 192) * 64 + (((128 + (R : Int) % 64).toNat.toUInt8).toNat : Int) - 128 = _
    rw [hu _ (by omega) (by omega), hu _ (by omega) (by omega)]
    omega
  · have el : encodeRune (R : Int) = [(224 + (R : Int) / 4096).toNat.toUInt8, (128 + (R : Int) / 64 % 64).toNat.toUInt8, (128 + (R : Int) % 64).toNat.toUInt8] := by unfold encodeRune; rw [e]; rfl
    have hK1 : K = 3 := by rw [← hlen, el]; rfl
    subst hK1
    show (bI L 0 - 224) * 4096 + (bI L 1 - 128) * 64 + bI L 2 - 128 = _
    rw [hb 0 (by omega), hb 1 (by omega), hb 2 (by omega), el]
    show ((((224 + (R : Int) / 4096).toNat.toUInt8).toNat : Int) - 224) * 4096 + ((((128 + (R : Int) / 64 % 64).toNat.toUInt8).toNat : Int) - 128) * 64 + (((128 + (R : Int) % 64).toNat.toUInt8).toNat : Int) - 128 = _
    rw [hu _ (by omega) (by omega), hu _ (by omega) (by omega), hu _ (by omega) (by omega)]
    omega
  · have el : encodeRune (R : Int) = [(240 + (R : Int) / 262144).toNat.toUInt8, (128 + (R : Int) / 4096 % 64).toNat.toUInt8, (128 + (R : Int) / 64 % 64).toNat.toUInt8, (128 + (R : Int) % 64).toNat.toUInt8] := by unfold encodeRune; rw [e]; rfl
    have hK1 : K = 4 := by rw [← hlen, el]; rfl
    subst hK1
    show (bI L 0 - 240) * 262144 + (bI L 1 - 128) * 4096 + (bI L 2 - 128) * 64 + bI L 3 - 128 = _
    rw [hb 0 (by omega), hb 1 (by omega), hb 2 (by omega), hb 3 (by omega), el]
    show ((((240 + (R : Int) / 262144).toNat.toUInt8).toNat : Int) - 240) * 262144 + ((((128 + (R : Int) / 4096 % 64).toNat.toUInt8).toNat : Int) - 128) * 4096 + ((((128 + (R : Int) / 64 % 64).toNat.toUInt8).toNat : Int) - 128) * 64 + (((128 + (R : Int) % 64).toNat.toUInt8).toNat : Int) - 128 = _
    rw [hu _ (by omega) (by omega), hu _ (by omega) (by omega), hu _ (by omega) (by omega), hu _ (by omega) (by omega)]
    omega
end Go.Proofs.YtdeihlbnlogjcaaDoor.Ut
