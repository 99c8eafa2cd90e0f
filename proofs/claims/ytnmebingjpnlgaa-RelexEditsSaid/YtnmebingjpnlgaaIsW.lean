/- The contracts of the document's Word and Is, and of lex's Is (beside LexW). -/
import Derived.Test.YtnmebingjpnlgaaRefF
import Derived.Test.YtnmebingjpnlgaaLexW
namespace Go.Proofs.Ytnmebingjpnlgaa
open Go.RowKit Go.Lib
set_option maxRecDepth 100000
set_option linter.unusedVariables false
set_option linter.unusedSectionVars false

theorem rword_any (s : ByteArray) (k a b : Int) (w : World) (hs : s.size ≤ 9223372036854775807) :
    Calls Try.prog 40 #[.string s, .agg #[.int .i64 k, .int .i64 a, .int .i64 b]] w fun e w' => e = .returned (.string (wordF s a b)) ∧ w.alloc (tokBox k a b) = w' := by
  by_cases h1 : a < 0
  · go_enter Try.func40, Try.ntmps40
    go_wp2
    go_ret
    exact ⟨ret_str (by unfold wordF; rw [if_neg (by omega)]), rfl⟩
  · by_cases h2 : b < a
    · go_enter Try.func40, Try.ntmps40
      go_wp2
      go_ret
      exact ⟨ret_str (by unfold wordF; rw [if_neg (by omega)]), rfl⟩
    · by_cases h3 : (s.size : Int) < b
      · go_enter Try.func40, Try.ntmps40
        go_wp2
        go_ret
        exact ⟨ret_str (by unfold wordF; rw [if_neg (by omega)]), rfl⟩
      · go_enter Try.func40, Try.ntmps40
        go_wp2
        go_ret
        exact ⟨ret_str (by unfold wordF; rw [if_pos (by omega)]), rfl⟩
theorem two_alloc (w : World) (x y : Obj) : Below w.heap.size w ((w.alloc x).alloc y) := ((Below.refl _ _).alloc (Nat.le_refl _) _).alloc (by simp) _
section
variable (s : ByteArray) (k a b : Int) (z : ByteArray) (w : World) (hs : s.size ≤ 9223372036854775807)
include hs
theorem is_yes (h : k = 5 ∨ k = 6) : Calls Try.prog 18 #[.string s, .agg #[.int .i64 k, .int .i64 a, .int .i64 b], .string z] w (fun e w' => e = .returned (.bool ((wordF s a b).toList == z.toList)) ∧ Below w.heap.size w w') := by
  rcases h with rfl | rfl
  · go_enter Try.func18, Try.ntmps18
    go_wp2_with (go_at_call 30; refine (word_any _ _ _ _ _ hs).mono ?_; rintro e w' ⟨rfl, rfl⟩)
    go_ret
    exact ⟨rfl, two_alloc _ _ _⟩
  · go_enter Try.func18, Try.ntmps18
    go_wp2_with (go_at_call 30; refine (word_any _ _ _ _ _ hs).mono ?_; rintro e w' ⟨rfl, rfl⟩)
    go_ret
    exact ⟨rfl, two_alloc _ _ _⟩
theorem is_no (h1 : ¬ k = 5) (h2 : ¬ k = 6) : Calls Try.prog 18 #[.string s, .agg #[.int .i64 k, .int .i64 a, .int .i64 b], .string z] w (fun e w' => e = .returned (.bool false) ∧ Below w.heap.size w w') := by
  go_enter Try.func18, Try.ntmps18
  go_wp2
  go_ret
  exact ⟨rfl, (Below.refl _ _).alloc (Nat.le_refl _) _⟩
theorem ris_yes (h : k = 5 ∨ k = 6) : Calls Try.prog 25 #[.string s, .agg #[.int .i64 k, .int .i64 a, .int .i64 b], .string z] w (fun e w' => e = .returned (.bool ((wordF s a b).toList == z.toList)) ∧ Below w.heap.size w w') := by
  rcases h with rfl | rfl
  · go_enter Try.func25, Try.ntmps25
    go_wp2_with (go_at_call 40; refine (rword_any _ _ _ _ _ hs).mono ?_; rintro e w' ⟨rfl, rfl⟩)
    go_ret
    exact ⟨rfl, two_alloc _ _ _⟩
  · go_enter Try.func25, Try.ntmps25
    go_wp2_with (go_at_call 40; refine (rword_any _ _ _ _ _ hs).mono ?_; rintro e w' ⟨rfl, rfl⟩)
    go_ret
    exact ⟨rfl, two_alloc _ _ _⟩
theorem ris_no (h1 : ¬ k = 5) (h2 : ¬ k = 6) : Calls Try.prog 25 #[.string s, .agg #[.int .i64 k, .int .i64 a, .int .i64 b], .string z] w (fun e w' => e = .returned (.bool false) ∧ Below w.heap.size w w') := by
  go_enter Try.func25, Try.ntmps25
  go_wp2
  go_ret
  exact ⟨rfl, (Below.refl _ _).alloc (Nat.le_refl _) _⟩
end

end Go.Proofs.Ytnmebingjpnlgaa
