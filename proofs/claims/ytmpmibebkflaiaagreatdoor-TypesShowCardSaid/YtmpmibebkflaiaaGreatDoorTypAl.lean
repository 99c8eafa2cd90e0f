/- types' alive answers true. -/
import Derived.Test.YtmpmibebkflaiaaGreatDoorTypRn
import Derived.Test.YtmpmibebkflaiaaGreatDoorTypK
namespace Go.Proofs.YtmpmibebkflaiaaGreatDoor
open Go.RowKit Go.Lib Go.Shelf Go.Sort Tp
set_option maxRecDepth 100000
set_option linter.unusedVariables false
set_option linter.unusedSectionVars false

/-- true, and nothing that was there has turned. -/
def TruePost (w : World) (e : Ending) (w' : World) : Prop := e = .returned (.bool true) ∧ Below w.heap.size w w'
def t2 : Ty := .mk 4 0 ⟨#[]⟩ [var 27, var 27]
def t3 : Ty := .mk 4 0 ⟨#[]⟩ [intT, intT]
theorem words_small {s : ByteArray} (hs : s.size ≤ 16000) : ∀ i, (wordT s (tokT s) i).size ≤ 16000 := fun i => Nat.le_trans (wordT_size s (tokT s) i) hs
theorem inst23 : instF nameB t2 t3 = true := by decide +kernel
theorem inst32 : instF nameB t3 t2 = false := by decide +kernel
theorem fit1 : fit t1 := by unfold fit; decide +kernel
theorem fit2 : fit t2 := by unfold fit; decide +kernel
theorem fit3 : fit t3 := by unfold fit; decide +kernel
theorem nums2 : numsOk t2 := by unfold numsOk; decide +kernel
theorem nums3 : numsOk t3 := by unfold numsOk; decide +kernel
theorem len1 : (writeB t1).length ≤ 1099511627776 := by decide +kernel
set_option maxHeartbeats 4000000 in
theorem alive_any (w : World) (hE : ErrsB w.heap.size w) (hP : PowB w.heap.size w) : Calls Tryz.prog 4 #[] w (TruePost w) := by
  have HR1 := Lib.hid (fun W (hb : Below w.heap.size w W) => read_known whole1 show1 W (by decide) (words_small (by decide)) (by obtain ⟨a, b, c⟩ := hE.on hb; have := hb.size; exact ⟨by omega, by omega, c⟩) (PowB.more (hP.on hb) hb.size))
  have HR2 := Lib.hid (fun W (hb : Below w.heap.size w W) => read_known (t := t2) whole2 show2 W (by decide) (words_small (by decide)) (by obtain ⟨a, b, c⟩ := hE.on hb; have := hb.size; exact ⟨by omega, by omega, c⟩) (PowB.more (hP.on hb) hb.size))
  have HR3 := Lib.hid (fun W (hb : Below w.heap.size w W) => read_known (t := t3) whole3 show3 W (by decide) (words_small (by decide)) (by obtain ⟨a, b, c⟩ := hE.on hb; have := hb.size; exact ⟨by omega, by omega, c⟩) (PowB.more (hP.on hb) hb.size))
  have HS := Lib.hid (fun W (hb : Below w.heap.size w W) s (hA : IsA W (Old W) t1.args s) => show_any t1 s W fit1 (fun _ => len1) hA (PowB.more (hP.on hb) hb.size))
  rw [show1] at HS
  have HI1 := Lib.hid (fun W s1 s2 (h1 : IsA W (Old W) t2.args s1) (h2 : IsA W (Old W) t3.args s2) => instance_any t2 t3 s1 s2 W fit2 fit3 nums2 h1 h2)
  have HI2 := Lib.hid (fun W s1 s2 (h1 : IsA W (Old W) t3.args s1) (h2 : IsA W (Old W) t2.args s2) => instance_any t3 t2 s1 s2 W fit3 fit2 nums3 h1 h2)
  rw [inst23] at HI1
  rw [inst32] at HI2
  unfold tv at HS HI1 HI2
  clear hE hP
  have e1 : s1 = (⟨#[39, 97, 32, 42, 32, 105, 110, 116, 32, 45, 62, 32, 39, 97, 32, 108, 105, 115, 116]⟩ : ByteArray) := rfl
  have e2 : s2 = (⟨#[39, 98, 49, 32, 45, 62, 32, 39, 98, 49]⟩ : ByteArray) := rfl
  have e3 : s3 = (⟨#[105, 110, 116, 32, 45, 62, 32, 105, 110, 116]⟩ : ByteArray) := rfl
  rw [e1] at HR1 HS
  rw [e2] at HR2
  rw [e3] at HR3
  clear e1 e2 e3
  generalize t1 = T1 at *
  generalize t2 = T2 at *
  generalize t3 = T3 at *
  go_enter Tryz.func4, Tryz.ntmps4
  go_wp2_with fail
  refine (HR1.out w (Below.refl _ _)).mono ?_
  rintro e w1 ⟨hb1, A1, c1, rfl, hi1⟩
  unfold tv
  obtain ⟨W1, hW1⟩ : ∃ W1, W1 = w1.alloc (.cells #[.int .i64 T1.kind, .int .i64 T1.num, .string T1.name, .slice A1 T1.args.length c1] 24) := ⟨_, rfl⟩
  have hB1 : Below w.heap.size w W1 := by rw [hW1]; exact hb1.alloc hb1.size _
  have hS := HS.out W1 hB1 _ (by rw [hW1]; exact (hi1.new).after ((Below.refl _ _).alloc (Nat.le_refl _) _))
  have HS1 := Lib.hid hS
  have HW1 := Lib.hid hW1
  have HB1 := Lib.hid hB1
  clear hS hW1 hB1 hb1 hi1 HR1 HS
  go_wp2_with fail
  rw [← HW1.out]
  refine HS1.out.mono ?_
  rintro e w2 ⟨rfl, hb2⟩
  have HB2 := Lib.hid (HB1.out.trans (hb2.mono HB1.out.size))
  clear hb2 HS1
  go_wp2_with fail
  refine (HR2.out w2 HB2.out).mono ?_
  rintro e w3 ⟨hb3, A3, c3, rfl, hi3⟩
  unfold tv
  have HB3 := Lib.hid (HB2.out.trans (hb3.mono HB2.out.size))
  have HI3 := Lib.hid hi3
  obtain ⟨W3, hW3⟩ : ∃ W3, W3 = w3.alloc (.cells #[.int .i64 T2.kind, .int .i64 T2.num, .string T2.name, .slice A3 T2.args.length c3] 24) := ⟨_, rfl⟩
  have hB3 : Below w.heap.size w W3 := by rw [hW3]; exact HB3.out.alloc HB3.out.size _
  have HBW3 := Lib.hid hB3
  have HK3 := Lib.hid (show W3.heap[w3.heap.size]? = some _ by rw [hW3]; exact heap_alloc_new w3 (.cells #[.int .i64 T2.kind, .int .i64 T2.num, .string T2.name, .slice A3 T2.args.length c3] 24))
  have HI3W := Lib.hid (show IsA W3 (Old W3) T2.args (.slice A3 T2.args.length c3) by rw [hW3]; exact (hi3.new).after ((Below.refl _ _).alloc (Nat.le_refl _) _))
  have HW3 := Lib.hid hW3
  have hs3 : W3.heap.size = w3.heap.size + 1 := by rw [hW3]; simp
  have HS3 := Lib.hid hs3
  clear hb3 hi3 hW3 hB3 hs3
  go_wp2_with fail
  rw [← HW3.out]
  refine (HR3.out W3 HBW3.out).mono ?_
  rintro e w4 ⟨hb4, A4, c4, rfl, hi4⟩
  unfold tv
  have HB4 := Lib.hid (HBW3.out.trans (hb4.mono HBW3.out.size))
  have hs4 := hb4.size
  obtain ⟨x0, x1, x2, x3⟩ := box4 ((hb4.block w3.heap.size (by have := HS3.out; omega)).trans HK3.out)
  have hz3 : w3.heap.size < w4.heap.size := by have := HS3.out; omega
  have HI4 := Lib.hid hi4.new
  have HI3X := Lib.hid (HI3W.out.after hb4)
  have HB44 := Lib.hid hb4
  have HK4 := Lib.hid ((hb4.block w3.heap.size (by have := HS3.out; omega)).trans HK3.out)
  obtain ⟨W4, hW4⟩ : ∃ W4, W4 = w4.alloc (.cells #[.int .i64 T3.kind, .int .i64 T3.num, .string T3.name, .slice A4 T3.args.length c4] 24) := ⟨_, rfl⟩
  have hb5 : Below w4.heap.size w4 W4 := by rw [hW4]; exact (Below.refl _ _).alloc (Nat.le_refl _) _
  have HJ1 := Lib.hid (HI1.out W4 _ _ (HI3X.out.after hb5) (HI4.out.after hb5))
  have HKA := Lib.hid ((hb5.block w3.heap.size hz3).trans HK4.out)
  have HKB := Lib.hid (show W4.heap[w4.heap.size]? = some _ by rw [hW4]; exact heap_alloc_new w4 (.cells #[.int .i64 T3.kind, .int .i64 T3.num, .string T3.name, .slice A4 T3.args.length c4] 24))
  have HBW4 := Lib.hid (HB4.out.trans (hb5.mono HB4.out.size))
  have HW4 := Lib.hid hW4
  have hs5 : W4.heap.size = w4.heap.size + 1 := by rw [hW4]; simp
  have HS5 := Lib.hid hs5
  have HB5 := Lib.hid hb5
  clear hb4 hi4 hW4 hb5 hs5
  go_wp2_with fail
  rw [← HW4.out]
  refine HJ1.out.mono ?_
  rintro e w5 ⟨rfl, hb6⟩
  have hs6 := hb6.size
  obtain ⟨y0, y1, y2, y3⟩ := box4 ((hb6.block w3.heap.size (by have := HS5.out; omega)).trans HKA.out)
  obtain ⟨z0, z1, z2, z3⟩ := box4 ((hb6.block w4.heap.size (by have := HS5.out; omega)).trans HKB.out)
  have HJ2 := Lib.hid (HI2.out w5 _ _ ((HI4.out.after HB5.out).after hb6) ((HI3X.out.after HB5.out).after hb6))
  have HB6 := Lib.hid (HBW4.out.trans (hb6.mono HBW4.out.size))
  have hz7 : w3.heap.size < w5.heap.size := by have := HS5.out; omega
  have hz8 : w4.heap.size < w5.heap.size := by have := HS5.out; omega
  clear hb6
  go_wp2_with (go_at_call 15; with_reducible (refine HJ2.out.mono ?_); rintro e w6 ⟨rfl, hb7⟩; have HB7 := Lib.hid (HB6.out.trans (hb7.mono HB6.out.size)); clear hb7)
  go_ret
  exact ⟨rfl, HB7.out⟩
end Go.Proofs.YtmpmibebkflaiaaGreatDoor
