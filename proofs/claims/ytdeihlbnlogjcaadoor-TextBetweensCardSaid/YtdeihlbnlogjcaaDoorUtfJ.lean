/- utf's alive answers true. -/
import Derived.Test.YtdeihlbnlogjcaaDoorUtfI
import Derived.BigQuiet
namespace Go.Proofs.YtdeihlbnlogjcaaDoor
open Go.RowKit Go.Lib Go.Shelf
set_option maxRecDepth 100000
set_option linter.unusedVariables false

/-- true, and nothing that was there has turned. -/
def TruePost (w : World) (e : Ending) (w' : World) : Prop := e = .returned (.bool true) ∧ Below w.heap.size w w'
def alL : List UInt8 := [97, 240, 159, 152, 128]
theorem al_text : Ut.encs [97, 128512] = alL := by decide +kernel
theorem al_valid : validD alL = true := by decide +kernel
theorem al_units : Ut.unitsF (Ut.runesF alL) = [97, 55357, 56832] := by decide +kernel
theorem al_off : Ut.offF 0 0 (Ut.runesF alL) 3 = some 5 := by decide +kernel
theorem al_validP : Ut.validP [97, 255] = 1 := by decide +kernel
theorem lit_valid (w M : World) (q g : Nat) (hg : g = M.heap.size) (hb : Below w.heap.size w M) (hT : Tabs w) :
    Calls Tryd.prog 21 #[.slice (some ⟨g, 0, none⟩) 2 2] ((M.drewN q).alloc (.cells #[.int .u8 97, .int .u8 255] 5)) fun e w' => e = .returned (.int .i64 1) ∧ Below w.heap.size w w' := by
  subst hg
  have hb2 : Below w.heap.size w ((M.drewN q).alloc (.cells #[.int .u8 97, .int .u8 255] 5)) := (below_drewN hb q).alloc hb.size _
  have h := valid_any (.slice (some ⟨M.heap.size, 0, none⟩) 2 2) [97, 255] ((M.drewN q).alloc (.cells #[.int .u8 97, .int .u8 255] 5)) _ (Nat.le_refl _) ((Rd.lit (M.drewN q) #[.int .u8 97, .int .u8 255] 5 1 2 2 rfl (Nat.le_refl _)).more (by simp)) (by decide) (Utf8Tabs_below hT hb2)
  rw [al_validP] at h
  exact h.mono fun e w' h => ⟨h.1, hb2.trans (h.2.mono hb2.size)⟩
set_option maxHeartbeats 2000000 in
theorem alive_any (w : World) (hT : Tabs w) : Calls Tryd.prog 19 #[] w (TruePost w) := by
  have hA := (Below.refl w.heap.size w).alloc (Nat.le_refl _) (.cells #[.int .i64 97, .int .i64 128512] 3)
  go_enter Tryd.func19, Tryd.ntmps19
  go_wp2_with fail
  refine (text_any _ [97, 128512] _ _ (by simp) (Rd.lit w #[.int .i64 97, .int .i64 128512] 3 1 2 2 rfl (Nat.le_refl _)) (by decide)).mono ?_
  rintro e w1 ⟨h, hb1⟩
  rw [if_pos (by decide)] at h
  subst h
  rw [al_text]
  have HB1 := Lib.hid (hA.trans (hb1.mono (by simp)))
  clear hb1 hA
  go_wp2_with fail
  refine (units_any ⟨⟨alL⟩⟩ w1 (by decide) (Utf8Tabs_below hT HB1.out)).mono ?_
  rintro e w2 ⟨h, hb2⟩
  rw [if_pos al_valid] at h
  obtain ⟨v2, rfl, hi2⟩ := h
  change Ints _ (Ut.unitsF (Ut.runesF alL)) v2 w2 at hi2
  rw [al_units] at hi2
  have HB2 := Lib.hid (HB1.out.trans (hb2.mono HB1.out.size))
  have HI2 := Lib.hid hi2
  clear hb2 hi2
  go_wp2_with fail
  refine (offset_any ⟨⟨alL⟩⟩ 3 w2 (by decide) (Utf8Tabs_below hT HB2.out)).mono ?_
  rintro e w3 ⟨h, hb3⟩
  change e = .returned (.tuple (if validD alL = true then (match Ut.offF 0 0 (Ut.runesF alL) 3 with | some o => #[.int .i64 o, .int .i64 0] | none => #[.int .i64 0, .int .i64 70]) else #[.int .i64 0, .int .i64 40])) at h
  rw [al_valid, al_off] at h
  subst h
  have HI3 := Lib.hid (HI2.out.rd.below (hb3.mono (Nat.le_refl _)))
  have HB3 := Lib.hid (HB2.out.trans (hb3.mono HB2.out.size))
  have HB23 := Lib.hid hb3.size
  clear hb3
  have hs3 : w.heap.size ≤ w3.heap.size := HB3.out.size
  have HSM := Lib.hid (sameInts_yes v2 _ [97, 55357, 56832] (w3.alloc (.cells #[.int .i64 97, .int .i64 55357, .int .i64 56832] 3)) w2.heap.size _ (HI3.out.below ((Below.refl _ w3).alloc HB23.out _)) (Rd.lit w3 #[.int .i64 97, .int .i64 55357, .int .i64 56832] 3 1 3 3 rfl (Nat.le_refl _)) (by decide))
  have HB4 := Lib.hid (HB3.out.alloc hs3 (.cells #[.int .i64 97, .int .i64 55357, .int .i64 56832] 3))
  have HVA := Lib.hid (fun q : Nat => lit_valid w (w3.alloc (.cells #[.int .i64 97, .int .i64 55357, .int .i64 56832] 3)) q (w3.heap.size + 1) (by simp) HB4.out hT)
  go_wp2_with (first | (go_at_call 26; with_reducible (refine HSM.out.mono ?_); rintro e w4 ⟨rfl, q, rfl⟩) | (go_at_call 21; with_reducible (refine (HVA.out q).mono ?_); rintro e w5 ⟨rfl, hb5⟩; have HB5 := Lib.hid hb5; clear hb5))
  go_ret
  exact ⟨rfl, HB5.out⟩
end Go.Proofs.YtdeihlbnlogjcaaDoor
