/- The contract of the law's great. -/
import Derived.Test.YtmpmibebkflaiaaGreatDoorTypAl
namespace Go.Proofs.YtmpmibebkflaiaaGreatDoor
open Go.RowKit Go.Lib Go.Shelf Go.Sort Tp
set_option maxRecDepth 100000
set_option linter.unusedVariables false
set_option linter.unusedSectionVars false

set_option maxHeartbeats 1000000 in
theorem great_any (t : Ty) (s : Value) (w : World) (hf : fit t) (hA : IsA w (Old w) t.args s) :
    Calls Tryz.prog 5 #[tv t s] w fun e w' => e = .returned (.bool (greatF t)) ∧ Below w.heap.size w w' := by
  obtain ⟨A, c, rfl, hc⟩ := hA.form
  obtain ⟨M, hM⟩ : ∃ M, M = w.alloc (.cells #[.int .i64 t.kind, .int .i64 t.num, .string t.name, .slice A t.args.length c] 24) := ⟨_, rfl⟩
  have hMb : Below w.heap.size w M := by rw [hM]; exact (Below.refl _ _).alloc (Nat.le_refl _) _
  have HC := Lib.hid (weight_any t.wt t 1000 _ M (Nat.le_refl _) (by decide) (by decide) hf (hA.after hMb))
  have HM := Lib.hid hM
  have HMB := Lib.hid hMb
  have HG := Lib.hid (show greatF t = decide (1000 < weightF 1000 t) from rfl)
  unfold tv at HC ⊢
  generalize weightF 1000 t = k at *
  clear hf hA hM hMb
  go_enter Tryz.func5, Tryz.ntmps5
  go_wp2_with (go_at_call 16; rw [← HM.out]; refine HC.out.mono ?_; rintro e w1 ⟨rfl, hb1⟩; have HB1 := Lib.hid (HMB.out.trans (hb1.mono HMB.out.size)); clear hb1)
  go_ret
  rw [HG.out]
  exact ⟨rfl, HB1.out⟩
end Go.Proofs.YtmpmibebkflaiaaGreatDoor
