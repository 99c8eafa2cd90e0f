/- The contracts of the document's small predicates on a text. -/
import Derived.Test.YteialkkpoikelaaLexE
namespace Go.Proofs.Yteialkkpoikelaa
open Go.RowKit Go.Lib
set_option maxRecDepth 100000
set_option linter.unusedVariables false

theorem rwhite_any (c : UInt8) (w : World) : Calls Try.prog 23 #[.int .u8 (c.toNat : Int)] w fun e w' => e = .returned (.bool (Lx.isWhite c)) ∧ w = w' := by
  go_enter Try.func23, Try.ntmps23
  go_wp2
  all_goals
    go_ret
    exact ⟨ret_bool (by rw [Bool.eq_iff_iff]; simp [Lx.isWhite]; omega), rfl⟩
theorem rsmall_any (c : UInt8) (w : World) : Calls Try.prog 36 #[.int .u8 (c.toNat : Int)] w fun e w' => e = .returned (.bool (Lx.isSmall c)) ∧ w = w' := by
  go_enter Try.func36, Try.ntmps36
  go_wp2
  all_goals
    go_ret
    exact ⟨ret_bool (by rw [Bool.eq_iff_iff]; simp [Lx.isSmall]; omega), rfl⟩
theorem rgreat_any (c : UInt8) (w : World) : Calls Try.prog 37 #[.int .u8 (c.toNat : Int)] w fun e w' => e = .returned (.bool (Lx.isGreat c)) ∧ w = w' := by
  go_enter Try.func37, Try.ntmps37
  go_wp2
  all_goals
    go_ret
    exact ⟨ret_bool (by rw [Bool.eq_iff_iff]; simp [Lx.isGreat]; omega), rfl⟩
theorem rdigit_any (c : UInt8) (w : World) : Calls Try.prog 38 #[.int .u8 (c.toNat : Int)] w fun e w' => e = .returned (.bool (Lx.isDigit c)) ∧ w = w' := by
  go_enter Try.func38, Try.ntmps38
  go_wp2
  all_goals
    go_ret
    exact ⟨ret_bool (by rw [Bool.eq_iff_iff]; simp [Lx.isDigit]; omega), rfl⟩

theorem at_yes {s p : ByteArray} {i : Nat} (h : (i : Int) + p.size ≤ s.size) : ((s.extract i (i + p.size)).toList == p.toList) = Lx.preB p.data.toList (s.data.toList.drop i) := by
  rw [cut_toL, toL, Lx.preB, Bool.eq_iff_iff, List.isPrefixOf_iff_prefix, beq_iff_eq, List.prefix_iff_eq_take, Nat.add_sub_cancel_left]
  exact ⟨fun h => h.symm, fun h => h.symm⟩
theorem at_no {s p : ByteArray} {i : Nat} (hi : i ≤ s.size) (h : (s.size : Int) < i + p.size) : false = Lx.preB p.data.toList (s.data.toList.drop i) := by
  symm
  rw [Bool.eq_false_iff]
  intro hp
  have := (List.isPrefixOf_iff_prefix.1 hp).length_le
  rw [List.length_drop, ← sz, ← sz] at this
  omega
theorem rat_any (s p : ByteArray) (i : Nat) (hi : i ≤ s.size) (hs : s.size ≤ 1099511627776) (hp : p.size ≤ 1000) (w : World) :
    Calls Try.prog 24 #[.string s, .int .i64 (i : Int), .string p] w fun e w' => e = .returned (.bool (Lx.preB p.data.toList (s.data.toList.drop i))) ∧ w = w' := by
  go_enter Try.func24, Try.ntmps24
  go_wp2
  all_goals go_ret
  · exact ⟨ret_bool (at_yes ‹_›), rfl⟩
  · exact ⟨ret_bool (at_no hi ‹_›), rfl⟩
end Go.Proofs.Yteialkkpoikelaa
