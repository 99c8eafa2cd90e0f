/- The library's Count, IndexByte, LastIndexByte, Cut at this dump; text's Lines. -/
import Derived.Test.YtdeihlbnlogjcaaDoorTexA
import Derived.Test.YtdeihlbnlogjcaaDoorShelfS
import Derived.Shelf.Strings.Count
import Derived.Shelf.Strings.Cut
import Derived.Shelf.Strings.LastIndex
import Derived.Shelf.Small.Strs
namespace Go.Proofs.YtdeihlbnlogjcaaDoor
open Go.RowKit Go.Lib Go.Shelf
set_option maxRecDepth 100000
set_option linter.unusedVariables false

theorem count_lf (s : ByteArray) (w : World) : Calls Tryd.prog 65 #[.string s, .string ⟨#[10]⟩] w fun e w' => e = .returned (.int .i64 (Lib.countByte s.data.toList 10)) ∧ w' = w := Any.strings_Count_one Tryd.lays138 s 10 w
theorem index_lf (s : ByteArray) (w : World) : Calls Tryd.prog 63 #[.string s, .int .u8 10] w fun e w' => e = .returned (.int .i64 (Lib.indexByte s.data.toList 10)) ∧ w' = w := Any.strings_IndexByte Tryd.lays137 s 10 w
theorem last_lf (s : ByteArray) (hs : s.size < 4611686018427387904) (w : World) : Calls Tryd.prog 66 #[.string s, .int .u8 10] w fun e w' => e = .returned (.int .i64 (Lib.lastIndexByte s 10)) ∧ w' = w := Any.strings_LastIndexByte Tryd.lays149 s 10 hs w
/-- what is said of the library's own number (some integer). -/
def MaxL (w : World) : Prop := ∃ m : Int, w.cell? ⟨Tryd.lays145_ren.g 1, 0, none⟩ = some (.int .i64 m)
theorem cut_lf (s : ByteArray) (hs : s.size < 4294967281) (w : World) (hM : MaxL w) : Calls Tryd.prog 64 #[.string s, .string ⟨#[10]⟩] w fun e w' => e = .returned (.tuple #[.string ⟨(Lib.cut s.data.toList [10]).1.toArray⟩, .string ⟨(Lib.cut s.data.toList [10]).2.1.toArray⟩, .bool (Lib.cut s.data.toList [10]).2.2]) ∧ ∃ n, w' = w.drewN n := by
  obtain ⟨m, hm⟩ := hM
  exact Any.strings_Cut Tryd.lays145 s ⟨#[10]⟩ m w hs hm
theorem lines_any (s : ByteArray) (hs : s.size ≤ 1152921504606846976) (hc : (Lib.countByte s.data.toList 10 : Int) ≤ s.size) (w : World) : Calls Tryd.prog 42 #[.string s] w fun e w' => e = .returned (.int .i64 ((Lib.countByte s.data.toList 10 : Int) + 1)) ∧ w = w' := by
  have HC := Lib.hid ((count_lf s w).mono fun e w' h => (show e = .returned (.int .i64 (Lib.countByte s.data.toList 10)) ∧ w = w' from ⟨h.1, h.2.symm⟩))
  obtain ⟨n, hn⟩ : ∃ n : Int, n = Lib.countByte s.data.toList 10 := ⟨_, rfl⟩
  rw [← hn] at HC hc ⊢
  have HN := Lib.hid (show (0 : Int) ≤ n by rw [hn]; omega)
  have hn0 := HN.out
  clear hn
  go_enter Tryd.func42, Tryd.ntmps42
  go_wp2_with (go_at_call 65; with_reducible (refine HC.out.mono ?_); rintro e w1 ⟨rfl, rfl⟩)
  go_ret
  exact ⟨rfl, rfl⟩
end Go.Proofs.YtdeihlbnlogjcaaDoor
