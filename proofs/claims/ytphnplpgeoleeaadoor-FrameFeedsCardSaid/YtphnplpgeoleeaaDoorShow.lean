/- Show: a number's digits. -/
import Derived.Test.YtphnplpgeoleeaaDoorFraR
namespace Go.Proofs.YtphnplpgeoleeaaDoor
open Go.RowKit Go.Lib Go.Shelf
set_option maxRecDepth 100000
set_option linter.unusedVariables false
set_option linter.unusedSectionVars false

/-- what is told of the digits L behind a rest k. -/
def ShowI (n k : Nat) (L : List UInt8) : Prop := (k = 0 → Lib.decDigits n = L) ∧ (0 < k → Lib.decDigits n = Lib.decDigits k ++ L)
theorem showI_next {n k : Nat} {L : List UInt8} (h : ShowI n k L) (hk : 0 < k) : ShowI n (k / 10) (UInt8.ofNat (48 + k % 10) :: L) := by
  have h2 := h.2 hk
  rw [Lib.decDigits.eq_def k] at h2
  constructor
  · intro h0
    have : k < 10 := by omega
    rw [dif_pos this] at h2
    rw [h2, Nat.mod_eq_of_lt this]
    rfl
  · intro h0
    have : ¬ k < 10 := by omega
    rw [dif_neg this] at h2
    rw [h2, List.append_assoc]
    rfl
theorem showI_len {n k : Nat} {L : List UInt8} (h : ShowI n k L) (hn : n < 10 ^ 15) : L.length ≤ 15 := by
  have h1 := (decDigits_len 15 n (by decide) hn).1
  rcases Nat.eq_zero_or_pos k with h0 | h0
  · rw [h.1 h0] at h1
    exact h1
  · rw [h.2 h0, List.length_append] at h1
    omega
set_option maxHeartbeats 1000000 in
theorem show_any (n : Nat) (w : World) (hn : n < 10 ^ 15) : Calls Tryd.prog 24 #[.int .i64 (n : Nat)] w fun e w' => e = .returned (.string (bs (Lib.decDigits n))) ∧ Below w.heap.size w w' := by
  obtain ⟨i0, hi, hz0, hz1, hz2⟩ := info_parts infoByte
  by_cases h0 : n = 0
  · subst h0
    have hd : bs (Lib.decDigits 0) = ⟨#[48]⟩ := by rw [Lib.decDigits, dif_pos (by decide)]; rfl
    have HD := Lib.hid hd
    clear hd
    go_enter Tryd.func24, Tryd.ntmps24
    go_wp2
    go_ret
    exact ⟨by rw [HD.out]; rfl, Below.refl _ _⟩
  · have hez : ((n : Int) == 0) = false := beq_eq_false_iff_ne.2 (by omega)
    have hneg : decide ((n : Int) < 0) = false := decide_eq_false (by omega)
    have hn2 : n < 1000000000000000 := hn
    have HN0 := Lib.hid h0
    clear h0 hn
    go_enter Tryd.func24, Tryd.ntmps24
    go_wp2
    go_loopw [0, 3] (fun vv u wr => ∃ (k : Nat) (L : List UInt8), vv = .int .i64 k ∧ k ≤ n ∧ RowKit.Hid (ShowI n k L) ∧ RowKit.Hid (wr.ownsRow w.heap.size 5 1 u L.length (bytesV L)) ∧ RowKit.Hid (Below w.heap.size w wr)) (fun vv _ _ => (RowKit.intOf vv).toNat)
    case atStart => exact ⟨n, [], rfl, Nat.le_refl _, ⟨fun h => absurd h HN0.out, fun _ => by simp⟩, World.ownsRow_lit (e := 5) (size := 1) w #[] 0 (Nat.le_refl _) (by unfold maxLen; omega) rfl, (Below.refl _ _).alloc (Nat.le_refl _) _⟩
    case round =>
      obtain ⟨k, L, rfl, hk, HI, HO, HB⟩ := hrel
      by_cases hk0 : k = 0
      · subst hk0
        have HA := Lib.hid (own_argB HO.out)
        obtain ⟨A, c, rfl, hc⟩ := HA.out.shape
        have kcv := conv_rd HA.out.1 27 9 5 Tryd.underlying27 Tryd.underlying5 Tryd.underlying9
        have HR := Lib.hid (HI.out.1 rfl)
        go_wp2
        go_ret
        exact ⟨by rw [HR.out]; rfl, HB.out⟩
      · have hkz : ((k : Int) != 0) = true := by rw [bne_iff_ne]; omega
        have HK0 := Lib.hid hk0
        obtain ⟨m, hm, hm9⟩ : ∃ m : Nat, (k : Int) % 10 = (m : Int) ∧ m ≤ 9 := ⟨k % 10, by omega, by omega⟩
        obtain ⟨q, hq, hqk⟩ : ∃ q : Nat, (k : Int) / 10 = (q : Int) ∧ q < k := ⟨k / 10, by omega, by omega⟩
        have HNX := Lib.hid (show ShowI n q (UInt8.ofNat (48 + m) :: L) by
          have h := showI_next HI.out (by omega)
          rwa [show k / 10 = q by omega, show k % 10 = m by omega] at h)
        have hL := showI_len HI.out hn2
        have HXV := Lib.hid (show bytesV [UInt8.ofNat (48 + m)] = [.int .u8 (48 + (m : Int))] by
          have h : (UInt8.ofNat (48 + m)).toNat = 48 + m := by simp; omega
          show [byteV _] = _
          unfold byteV
          rw [h]
          simp)
        have HA := Lib.hid (own_argB HO.out)
        have hw : w.heap.size ≤ wr.heap.size := HB.out.size
        clear hk0
        go_wp2_with (at_builtin; refine wpList_append_argB rfl _ _ 27 rfl wr.heap.size 5 i0 _ Tryd.underlying27 hi hz0 hz1 hz2 rfl _ [UInt8.ofNat (48 + m)] rfl (by rw [HXV.out]; exact World.ownsRow_lit (e := 5) (size := 1) wr #[.int .u8 (48 + (m : Int))] 1 (Nat.le_refl _) (by unfold maxLen; omega) rfl) _ L rfl (argB_below HA.out ((Below.refl _ _).alloc (Nat.le_refl _) _)) (by simp; omega) (by simp) ?_; intro v3 w3 hown3 hgrow3 _; have HST := Lib.hid (show w3.ownsRow w.heap.size 5 1 v3 (UInt8.ofNat (48 + m) :: L).length (bytesV (UInt8.ofNat (48 + m) :: L)) from own_base hown3 hw); have HBW := Lib.hid (HB.out.trans ((((Below.refl _ _).alloc (Nat.le_refl _) _).grown hgrow3 (by simp) (fun g e => by cases e; exact Nat.le_refl _)).mono hw)); clear hown3 hgrow3)
        go_roundw
        case rel => exact ⟨q, UInt8.ofNat (48 + m) :: L, by go_num, by omega, HNX.out, HST.out, HBW.out⟩
        case measure => (simp [RowKit.intOf] <;> omega)
end Go.Proofs.YtphnplpgeoleeaaDoor
