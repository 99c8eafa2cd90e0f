/- The library's Count, IndexByte, LastIndexByte, Cut at this dump; text's Lines. Where a text's lines begin: plain mathematics. -/
import Derived.Test.YtdeihlbnlogjcaaDoorTexA
import Derived.Test.YtdeihlbnlogjcaaDoorShelfS
import Derived.Shelf.Strings.Count
import Derived.Shelf.Strings.Cut
import Derived.Shelf.Strings.LastIndex
import Derived.Shelf.Small.Strs
namespace Go.Proofs.YtdeihlbnlogjcaaDoor
open Go.RowKit Go.Lib Go.Shelf
set_option maxRecDepth 100000
set_option linter.unusedVariables false

theorem count_lf (s : ByteArray) (w : World) : Calls Tryd.prog 65 #[.string s, .string ⟨#[10]⟩] w fun e w' => e = .returned (.int .i64 (Lib.countByte s.data.toList 10)) ∧ w' = w := Any.strings_Count_one Tryd.lays138 s 10 w
theorem index_lf (s : ByteArray) (w : World) : Calls Tryd.prog 63 #[.string s, .int .u8 10] w fun e w' => e = .returned (.int .i64 (Lib.indexByte s.data.toList 10)) ∧ w' = w := Any.strings_IndexByte Tryd.lays137 s 10 w
theorem last_lf (s : ByteArray) (hs : s.size < 4611686018427387904) (w : World) : Calls Tryd.prog 66 #[.string s, .int .u8 10] w fun e w' => e = .returned (.int .i64 (Lib.lastIndexByte s 10)) ∧ w' = w := Any.strings_LastIndexByte Tryd.lays149 s 10 hs w
/-- what is said of the library's own number (some integer). -/
def MaxL (w : World) : Prop := ∃ m : Int, w.cell? ⟨Tryd.lays145_ren.g 1, 0, none⟩ = some (.int .i64 m)
theorem cut_lf (s : ByteArray) (hs : s.size < 4294967281) (w : World) (hM : MaxL w) : Calls Tryd.prog 64 #[.string s, .string ⟨#[10]⟩] w fun e w' => e = .returned (.tuple #[.string ⟨(Lib.cut s.data.toList [10]).1.toArray⟩, .string ⟨(Lib.cut s.data.toList [10]).2.1.toArray⟩, .bool (Lib.cut s.data.toList [10]).2.2]) ∧ ∃ n, w' = w.drewN n := by
  obtain ⟨m, hm⟩ := hM
  exact Any.strings_Cut Tryd.lays145 s ⟨#[10]⟩ m w hs hm
theorem lines_any (s : ByteArray) (hs : s.size ≤ 1152921504606846976) (hc : (Lib.countByte s.data.toList 10 : Int) ≤ s.size) (w : World) : Calls Tryd.prog 42 #[.string s] w fun e w' => e = .returned (.int .i64 ((Lib.countByte s.data.toList 10 : Int) + 1)) ∧ w = w' := by
  have HC := Lib.hid ((count_lf s w).mono fun e w' h => (show e = .returned (.int .i64 (Lib.countByte s.data.toList 10)) ∧ w = w' from ⟨h.1, h.2.symm⟩))
  obtain ⟨n, hn⟩ : ∃ n : Int, n = Lib.countByte s.data.toList 10 := ⟨_, rfl⟩
  rw [← hn] at HC hc ⊢
  have HN := Lib.hid (show (0 : Int) ≤ n by rw [hn]; omega)
  have hn0 := HN.out
  clear hn
  go_enter Tryd.func42, Tryd.ntmps42
  go_wp2_with (go_at_call 65; with_reducible (refine HC.out.mono ?_); rintro e w1 ⟨rfl, rfl⟩)
  go_ret
  exact ⟨rfl, rfl⟩
end Go.Proofs.YtdeihlbnlogjcaaDoor
namespace Go.Proofs.YtdeihlbnlogjcaaDoor
open Go.RowKit Go.Lib Go.Shelf
set_option linter.unusedVariables false

/-- at which byte a line begins. -/
def startN : Nat → List UInt8 → Nat
  | 0, _ => 0
  | k + 1, l => startN k l + (Lib.indexByte (l.drop (startN k l)) 10 + 1).toNat
theorem index_spec : ∀ l : List UInt8, (Lib.indexByte l 10 = -1 ∧ Lib.countByte l 10 = 0) ∨ (∃ i : Nat, Lib.indexByte l 10 = i ∧ i < l.length ∧ Lib.countByte (l.drop (i + 1)) 10 + 1 = Lib.countByte l 10 ∧ l.take i = l.takeWhile (· ≠ 10))
  | [] => .inl ⟨rfl, rfl⟩
  | b :: l => by
    by_cases hb : b = 10
    · subst hb
      refine .inr ⟨0, by simp [Lib.indexByte], by simp, ?_, by simp⟩
      simp [Lib.countByte]
    · have hb2 : (b == (10 : UInt8)) = false := by simpa using hb
      rcases index_spec l with ⟨h1, h2⟩ | ⟨i, h1, h2, h3, h4⟩
      · refine .inl ⟨?_, ?_⟩
        · unfold Lib.indexByte
          rw [hb2, h1]
          simp
        · unfold Lib.countByte at h2 ⊢
          rw [List.count_cons, h2, hb2]
          simp
      · refine .inr ⟨i + 1, ?_, by simp; omega, ?_, ?_⟩
        · unfold Lib.indexByte
          rw [hb2, h1]
          have : ¬ ((i : Int) == -1) = true := by simp
          rw [if_neg (by simp), if_neg this]
          omega
        · unfold Lib.countByte at h3 ⊢
          rw [List.drop_succ_cons, List.count_cons, hb2, h3]
          simp
        · rw [List.take_succ_cons, h4, List.takeWhile_cons]
          simp [hb]
theorem start_spec (l : List UInt8) : ∀ k : Nat, k ≤ Lib.countByte l 10 → startN k l ≤ l.length ∧ Lib.countByte (l.drop (startN k l)) 10 + k = Lib.countByte l 10
  | 0, _ => ⟨Nat.zero_le _, by simp [startN]⟩
  | k + 1, h => by
    obtain ⟨h1, h2⟩ := start_spec l k (by omega)
    rcases index_spec (l.drop (startN k l)) with ⟨a1, a2⟩ | ⟨i, a1, a2, a3, -⟩
    · omega
    · have e : startN (k + 1) l = startN k l + (i + 1) := by
        show startN k l + (Lib.indexByte (l.drop (startN k l)) 10 + 1).toNat = _
        rw [a1]
        omega
      rw [List.length_drop] at a2
      rw [List.drop_drop] at a3
      rw [e]
      exact ⟨by omega, by omega⟩
theorem count_le (l : List UInt8) : Lib.countByte l 10 ≤ l.length := List.count_le_length
end Go.Proofs.YtdeihlbnlogjcaaDoor
