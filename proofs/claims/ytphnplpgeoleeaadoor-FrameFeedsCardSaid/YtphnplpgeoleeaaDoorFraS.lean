/- Layer 3's alive. -/
import Derived.Test.YtphnplpgeoleeaaDoorFraR
namespace Go.Proofs.YtphnplpgeoleeaaDoor
open Go.RowKit Go.Lib Go.Shelf
set_option maxRecDepth 100000
set_option linter.unusedVariables false
set_option linter.unusedSectionVars false

def aliveL : List UInt8 := [99, 111, 110, 116, 101, 110, 116, 45, 76, 69, 78, 71, 84, 72, 58, 50, 32, 13, 10, 88, 58, 32, 121, 13, 10, 13, 10, 97]
theorem alive_small : smallRows [[97, 98]] := fun x h => by
  simp only [List.mem_singleton] at h
  subst h
  decide
theorem alive_one : stepF [] 0 aliveL = ([], aliveL, 0) := by decide +kernel
theorem alive_two : stepF aliveL 0 [98] = ([[97, 98]], [], 0) := by decide +kernel
theorem alive_enc : encF [97, 98] = [67, 111, 110, 116, 101, 110, 116, 45, 76, 101, 110, 103, 116, 104, 58, 32, 50, 13, 10, 13, 10, 97, 98] := by
  have h : Lib.decDigits 2 = [50] := by rw [Lib.decDigits, dif_pos (by decide)]; rfl
  unfold encF headF
  rw [show ([97, 98] : List UInt8).length = 2 from rfl, h]
  rfl
theorem one_argR (W : World) (u : Value) (x : List UInt8) (h : ArgB W u x) : ArgR (W.alloc (.cells #[u] 27)) (.slice (some ⟨W.heap.size, 0, none⟩) 1 1) [x] := by
  refine ⟨[u], ⟨rfl, _, _, rfl, Nat.le_refl _, fun _ => ⟨_, _, rfl, by simp, fun j hj => ?_⟩⟩, .inr ⟨_, _, rfl⟩, fun i y hi => ?_⟩
  · have h := World.cell?_alloc_mark W #[u] 27 (0, 0) j
    rw [Nat.zero_add]
    rw [h]
    simp
  · cases i with
    | zero =>
      simp at hi
      subst hi
      exact ⟨u, rfl, argB_below h ((Below.refl _ _).alloc (Nat.le_refl _) _)⟩
    | succ i => simp at hi
set_option maxHeartbeats 2000000 in
theorem alive_any (w : World) (hP : Pow w) (hM : MaxL w) : Calls Tryd.prog 10 #[] w (TruePost w) := by
  have hcv := fun (w : World) (C : Array Value) (n c : Nat) => Lib.run_convert_bytes_const (P := Tryd.prog) w 27 5 C n c Tryd.underlying27 Tryd.underlying5
  have HP := Lib.hid hP
  have HM := Lib.hid hM
  have hML := maxL_lt hM
  obtain ⟨W1, hW1⟩ : ∃ W1, W1 = w.alloc (.cells #[.slice none 0 0, .int .i64 0] 51) := ⟨_, rfl⟩
  have HB1 := Lib.hid (show Below w.heap.size w W1 by rw [hW1]; exact (Below.refl _ _).alloc (Nat.le_refl _) _)
  have HD1 := Lib.hid (show Dec W1 w.heap.size w.heap.size (.slice none 0 0) [] 0 by rw [hW1]; exact dec_new w _ (Nat.le_refl _))
  have HNW := Lib.hid (show Calls Tryd.prog 12 #[] w fun e w' => e = .returned (.pointer (some ⟨w.heap.size, 0, none⟩)) ∧ W1 = w' from (new_any w).mono fun e w' ⟨h1, h2⟩ => ⟨h1, by rw [hW1, h2]⟩)
  clear hW1 hP hM
  go_enter Tryd.func10, Tryd.ntmps10
  go_wp2_with fail
  refine HNW.out.mono ?_
  rintro e w1 ⟨rfl, rfl⟩
  go_wp2_with fail
  have hb2 := (Below.refl W1.heap.size W1).alloc (Nat.le_refl _) (.cells #[.int .u8 99, .int .u8 111, .int .u8 110, .int .u8 116, .int .u8 101, .int .u8 110, .int .u8 116, .int .u8 45, .int .u8 76, .int .u8 69, .int .u8 78, .int .u8 71, .int .u8 84, .int .u8 72, .int .u8 58, .int .u8 50, .int .u8 32, .int .u8 13, .int .u8 10, .int .u8 88, .int .u8 58, .int .u8 32, .int .u8 121, .int .u8 13, .int .u8 10, .int .u8 13, .int .u8 10, .int .u8 97] 5 (28, 29))
  have hB2 := HB1.out.trans (hb2.mono HB1.out.size)
  have HF1 := feed_any w.heap.size w.heap.size _ _ [] aliveL 0 _ (HD1.out.keep hb2) hB2.size hML (lit_argB W1 _ (28, 29) 28 28 aliveL rfl rfl (by decide)) (by decide) (maxL_below HM.out hB2 hML)
  rw [alive_one] at HF1
  refine HF1.mono ?_
  rintro e w2 ⟨A2, c2, hv2, rfl, HQ2⟩
  have HB2 := Lib.hid (hB2.trans HQ2.out.2.2.2.1)
  have HD2 := Lib.hid HQ2.out.1
  clear HF1 HQ2 hb2 hB2
  go_wp2_with fail
  have hb3 := (Below.refl w2.heap.size w2).alloc (Nat.le_refl _) (.cells #[.int .u8 98] 5 (1, 2))
  have hB3 := HB2.out.trans (hb3.mono HB2.out.size)
  have HF2 := feed_any w.heap.size w.heap.size _ _ aliveL [98] 0 _ (HD2.out.keep hb3) hB3.size hML (lit_argB w2 _ (1, 2) 1 1 [98] rfl rfl (by decide)) (by decide) (maxL_below HM.out hB3 hML)
  rw [alive_two] at HF2
  refine HF2.mono ?_
  rintro e w3 ⟨A3, c3, hv3, rfl, HQ3⟩
  have HB3 := Lib.hid (hB3.trans HQ3.out.2.2.2.1)
  have HR3 := Lib.hid (rows_argR HQ3.out.2.1)
  clear HF2 HQ3 hb3 hB3
  go_wp2_with fail
  have hb4 := (Below.refl w3.heap.size w3).alloc (Nat.le_refl _) (.cells #[.int .u8 97, .int .u8 98] 5 (2, 3))
  have hB4 := HB3.out.trans (hb4.mono HB3.out.size)
  have HE := encode_any _ [97, 98] _ (lit_argB w3 _ (2, 3) 2 2 [97, 98] rfl rfl (by decide)) (by decide) (pow_below HP.out hB4)
  rw [alive_enc] at HE
  refine HE.mono ?_
  rintro e w4 ⟨v4, rfl, ha4, hb5⟩
  obtain ⟨A4, c4, rfl, hc4⟩ := ha4.out.shape
  have HB4 := Lib.hid (hB4.trans (hb5.mono hB4.size))
  have HR4 := Lib.hid (HR3.out.below (hb4.trans (hb5.mono hb4.size)))
  clear HE hb4 hb5 hB4 hc4
  go_wp2_with fail
  have hb6 := (Below.refl w4.heap.size w4).alloc (Nat.le_refl _) (.cells #[.int .u8 97, .int .u8 98] 5 (2, 3))
  have hb7 := hb6.alloc hb6.size (.cells #[.slice (some ⟨w4.heap.size, 0, none⟩) 2 2] 27)
  have HS := sameRows_any _ _ [[97, 98]] [[97, 98]] _ (HR4.out.below hb7) (one_argR _ _ [97, 98] (lit_argB w4 #[.int .u8 97, .int .u8 98] (2, 3) 2 2 [97, 98] rfl rfl (by decide))) alive_small alive_small (by decide) (by decide)
  rw [show (w4.alloc (.cells #[.int .u8 97, .int .u8 98] 5 (2, 3))).heap.size = w4.heap.size + 1 by simp] at HS
  refine HS.mono ?_
  rintro e w5 ⟨rfl, q, rfl⟩
  have hA5 := argB_below (argB_below ha4.out hb7) (below_drewN (Below.refl _ _) q)
  have kcv : (convert 27 9 (.slice A4 23 c4)).run Tryd.prog _ = .ok (.string (bs [67, 111, 110, 116, 101, 110, 116, 45, 76, 101, 110, 103, 116, 104, 58, 32, 50, 13, 10, 13, 10, 97, 98])) _ := conv_rd hA5.1 _ _ 5 Tryd.underlying27 Tryd.underlying5 Tryd.underlying9
  have HB5 := Lib.hid (HB4.out.trans ((below_drewN hb7 q).mono HB4.out.size))
  clear HS hb6 hb7 hA5
  go_wp2_with fail
  go_ret
  refine ⟨?_, HB5.out⟩
  rw [Lib.toList_data, bs_list]
  rfl
end Go.Proofs.YtphnplpgeoleeaaDoor
