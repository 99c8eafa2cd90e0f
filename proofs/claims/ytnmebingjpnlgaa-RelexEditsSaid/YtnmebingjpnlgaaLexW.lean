/- The contract of Word. -/
import Derived.Test.YtnmebingjpnlgaaLexE
import Derived.Test.YtnmebingjpnlgaaMem
namespace Go.Proofs.Ytnmebingjpnlgaa
open Go.RowKit Go.Lib
set_option maxRecDepth 100000
set_option linter.unusedVariables false

/-- the box of a token that is handed in. -/
def tokBox (k a b : Int) : Obj := .cells #[.int .i64 k, .int .i64 a, .int .i64 b] 27
def wordF (s : ByteArray) (a b : Int) : ByteArray := if 0 ≤ a ∧ a ≤ b ∧ b ≤ s.size then s.extract a.toNat b.toNat else { data := #[] }
theorem ret_str {a b : ByteArray} (h : a = b) : Ending.returned (.string a) = .returned (.string b) := by rw [h]
theorem word_any (s : ByteArray) (k a b : Int) (w : World) (hs : s.size ≤ 9223372036854775807) :
    Calls Try.prog 30 #[.string s, .agg #[.int .i64 k, .int .i64 a, .int .i64 b]] w fun e w' => e = .returned (.string (wordF s a b)) ∧ w.alloc (tokBox k a b) = w' := by
  go_enter Try.func30, Try.ntmps30
  go_wp2
  all_goals go_ret
  · rename_i h
    exact ⟨ret_str (by unfold wordF; rw [if_neg (by omega)]), rfl⟩
  · rename_i h
    exact ⟨ret_str (by unfold wordF; rw [if_pos (by omega)]), rfl⟩
  · have h1 : b < a := by assumption
    exact ⟨ret_str (by unfold wordF; rw [if_neg (by omega)]), rfl⟩
  · have h1 : a < 0 := by assumption
    exact ⟨ret_str (by unfold wordF; rw [if_neg (by omega)]), rfl⟩
theorem wordF_nat (s : ByteArray) {a b : Nat} (h : a ≤ b) (hb : b ≤ s.size) : wordF s a b = s.extract a b := by
  unfold wordF
  rw [if_pos (by omega)]
  simp
/-- Word of a token that is there. -/
theorem word_at (s : ByteArray) (k a b : Nat) (h : a ≤ b) (hb : b ≤ s.size) (hs : s.size ≤ 9223372036854775807) (w : World) :
    Calls Try.prog 30 #[.string s, .agg #[.int .i64 (k : Int), .int .i64 (a : Int), .int .i64 (b : Int)]] w fun e w' => e = .returned (.string (s.extract a b)) ∧ w.alloc (tokBox k a b) = w' := by
  have := word_any s k a b w hs
  rw [wordF_nat s h hb] at this
  exact this
end Go.Proofs.Ytnmebingjpnlgaa
