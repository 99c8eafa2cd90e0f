/- Where a text's lines begin: plain mathematics. -/
import Derived.Test.YtdeihlbnlogjcaaDoorTexB
namespace Go.Proofs.YtdeihlbnlogjcaaDoor
open Go.RowKit Go.Lib Go.Shelf
set_option linter.unusedVariables false

/-- at which byte a line begins. -/
def startN : Nat → List UInt8 → Nat
  | 0, _ => 0
  | k + 1, l => startN k l + (Lib.indexByte (l.drop (startN k l)) 10 + 1).toNat
theorem index_spec : ∀ l : List UInt8, (Lib.indexByte l 10 = -1 ∧ Lib.countByte l 10 = 0) ∨ (∃ i : Nat, Lib.indexByte l 10 = i ∧ i < l.length ∧ Lib.countByte (l.drop (i + 1)) 10 + 1 = Lib.countByte l 10 ∧ l.take i = l.takeWhile (· ≠ 10))
  | [] => .inl ⟨rfl, rfl⟩
  | b :: l => by
    by_cases hb : b = 10
    · subst hb
      refine .inr ⟨0, by simp [Lib.indexByte], by simp, ?_, by simp⟩
      simp [Lib.countByte]
    · have hb2 : (b == (10 : UInt8)) = false := by simpa using hb
      rcases index_spec l with ⟨h1, h2⟩ | ⟨i, h1, h2, h3, h4⟩
      · refine .inl ⟨?_, ?_⟩
        · unfold Lib.indexByte
          rw [hb2, h1]
          simp
        · unfold Lib.countByte at h2 ⊢
          rw [List.count_cons, h2, hb2]
          simp
      · refine .inr ⟨i + 1, ?_, by simp; omega, ?_, ?_⟩
        · unfold Lib.indexByte
          rw [hb2, h1]
          have : ¬ ((i : Int) == -1) = true := by simp
          rw [if_neg (by simp), if_neg this]
          omega
        · unfold Lib.countByte at h3 ⊢
          rw [List.drop_succ_cons, List.count_cons, hb2, h3]
          simp
        · rw [List.take_succ_cons, h4, List.takeWhile_cons]
          simp [hb]
theorem start_spec (l : List UInt8) : ∀ k : Nat, k ≤ Lib.countByte l 10 → startN k l ≤ l.length ∧ Lib.countByte (l.drop (startN k l)) 10 + k = Lib.countByte l 10
  | 0, _ => ⟨Nat.zero_le _, by simp [startN]⟩
  | k + 1, h => by
    obtain ⟨h1, h2⟩ := start_spec l k (by omega)
    rcases index_spec (l.drop (startN k l)) with ⟨a1, a2⟩ | ⟨i, a1, a2, a3, -⟩
    · omega
    · have e : startN (k + 1) l = startN k l + (i + 1) := by
        show startN k l + (Lib.indexByte (l.drop (startN k l)) 10 + 1).toNat = _
        rw [a1]
        omega
      rw [List.length_drop] at a2
      rw [List.drop_drop] at a3
      rw [e]
      exact ⟨by omega, by omega⟩
theorem count_le (l : List UInt8) : Lib.countByte l 10 ≤ l.length := List.count_le_length
end Go.Proofs.YtdeihlbnlogjcaaDoor
