/- The contract of lex's Is. -/
import Derived.Test.YtmpmibebkflaiaaGreatDoorLexK
namespace Go.Proofs.YtmpmibebkflaiaaGreatDoor
open Go.RowKit Go.Lib
set_option maxRecDepth 100000
set_option linter.unusedVariables false
set_option linter.unusedSectionVars false

theorem two_alloc (w : World) (x y : Obj) : Below w.heap.size w ((w.alloc x).alloc y) := ((Below.refl _ _).alloc (Nat.le_refl _) _).alloc (by simp) _
section
variable (s : ByteArray) (k a b : Int) (z : ByteArray) (w : World) (hs : s.size ≤ 9223372036854775807)
include hs
theorem is_yes (h : k = 5 ∨ k = 6) : Calls Tryz.prog 62 #[.string s, .agg #[.int .i64 k, .int .i64 a, .int .i64 b], .string z] w (fun e w' => e = .returned (.bool ((wordF s a b).toList == z.toList)) ∧ Below w.heap.size w w') := by
  rcases h with rfl | rfl
  · go_enter Tryz.func62, Tryz.ntmps62
    go_wp2_with (go_at_call 72; refine (word_any _ _ _ _ _ hs).mono ?_; rintro e w' ⟨rfl, rfl⟩)
    go_ret
    exact ⟨rfl, two_alloc _ _ _⟩
  · go_enter Tryz.func62, Tryz.ntmps62
    go_wp2_with (go_at_call 72; refine (word_any _ _ _ _ _ hs).mono ?_; rintro e w' ⟨rfl, rfl⟩)
    go_ret
    exact ⟨rfl, two_alloc _ _ _⟩
theorem is_no (h1 : ¬ k = 5) (h2 : ¬ k = 6) : Calls Tryz.prog 62 #[.string s, .agg #[.int .i64 k, .int .i64 a, .int .i64 b], .string z] w (fun e w' => e = .returned (.bool false) ∧ Below w.heap.size w w') := by
  go_enter Tryz.func62, Tryz.ntmps62
  go_wp2
  go_ret
  exact ⟨rfl, (Below.refl _ _).alloc (Nat.le_refl _) _⟩
end
end Go.Proofs.YtmpmibebkflaiaaGreatDoor
