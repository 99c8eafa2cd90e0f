/- The contracts of the document's tables of words and signs. -/
import Derived.Test.YteialkkpoikelaaRefA
import Derived.Laws.Rows
namespace Go.Proofs.Yteialkkpoikelaa
open Go.RowKit Go.Lib
set_option maxRecDepth 100000
set_option linter.unusedVariables false

theorem info13 : (Try.prog.info? 41).map (·.size) = some 13 := by kernel_rfl
theorem ul13 : Try.prog.underlying 41 = some (.array 13 9) := by kernel_rfl
theorem words_any (w : World) : Calls Try.prog 39 #[] w fun e w' => e = .returned (.agg #[.string { data := #[108, 101, 116] }, .string { data := #[114, 101, 99] }, .string { data := #[105, 110] }, .string { data := #[102, 117, 110] }, .string { data := #[105, 102] }, .string { data := #[116, 104, 101, 110] }, .string { data := #[101, 108, 115, 101] }, .string { data := #[109, 97, 116, 99, 104] }, .string { data := #[119, 105, 116, 104] }, .string { data := #[116, 121, 112, 101] }, .string { data := #[111, 102] }, .string { data := #[116, 114, 117, 101] }, .string { data := #[102, 97, 108, 115, 101] }]) ∧ w' = w.alloc (.cells #[.string { data := #[108, 101, 116] }, .string { data := #[114, 101, 99] }, .string { data := #[105, 110] }, .string { data := #[102, 117, 110] }, .string { data := #[105, 102] }, .string { data := #[116, 104, 101, 110] }, .string { data := #[101, 108, 115, 101] }, .string { data := #[109, 97, 116, 99, 104] }, .string { data := #[119, 105, 116, 104] }, .string { data := #[116, 121, 112, 101] }, .string { data := #[111, 102] }, .string { data := #[116, 114, 117, 101] }, .string { data := #[102, 97, 108, 115, 101] }] 41) := by
  go_enter Try.func39, Try.ntmps39
  go_wp2
  refine bodyPost_ret (v := .agg #[.string { data := #[108, 101, 116] }, .string { data := #[114, 101, 99] }, .string { data := #[105, 110] }, .string { data := #[102, 117, 110] }, .string { data := #[105, 102] }, .string { data := #[116, 104, 101, 110] }, .string { data := #[101, 108, 115, 101] }, .string { data := #[109, 97, 116, 99, 104] }, .string { data := #[119, 105, 116, 104] }, .string { data := #[116, 121, 112, 101] }, .string { data := #[111, 102] }, .string { data := #[116, 114, 117, 101] }, .string { data := #[102, 97, 108, 115, 101] }]) ?_ rfl ⟨rfl, rfl⟩
  exact results_cell_row rfl _ _ w.heap.size 41 #[.string { data := #[108, 101, 116] }, .string { data := #[114, 101, 99] }, .string { data := #[105, 110] }, .string { data := #[102, 117, 110] }, .string { data := #[105, 102] }, .string { data := #[116, 104, 101, 110] }, .string { data := #[101, 108, 115, 101] }, .string { data := #[109, 97, 116, 99, 104] }, .string { data := #[119, 105, 116, 104] }, .string { data := #[116, 121, 112, 101] }, .string { data := #[111, 102] }, .string { data := #[116, 114, 117, 101] }, .string { data := #[102, 97, 108, 115, 101] }] (0, 0) _ rfl (heap_alloc_new _ _) ul13 rfl info13
theorem signs_any (w : World) : Calls Try.prog 40 #[] w fun e w' => e = .returned (.agg #[.string { data := #[45, 62] }, .string { data := #[58, 58] }, .string { data := #[59, 59] }, .string { data := #[40] }, .string { data := #[41] }, .string { data := #[44] }, .string { data := #[124] }, .string { data := #[61] }, .string { data := #[60] }, .string { data := #[43] }, .string { data := #[45] }, .string { data := #[42] }, .string { data := #[95] }]) ∧ w' = w.alloc (.cells #[.string { data := #[45, 62] }, .string { data := #[58, 58] }, .string { data := #[59, 59] }, .string { data := #[40] }, .string { data := #[41] }, .string { data := #[44] }, .string { data := #[124] }, .string { data := #[61] }, .string { data := #[60] }, .string { data := #[43] }, .string { data := #[45] }, .string { data := #[42] }, .string { data := #[95] }] 41) := by
  go_enter Try.func40, Try.ntmps40
  go_wp2
  refine bodyPost_ret (v := .agg #[.string { data := #[45, 62] }, .string { data := #[58, 58] }, .string { data := #[59, 59] }, .string { data := #[40] }, .string { data := #[41] }, .string { data := #[44] }, .string { data := #[124] }, .string { data := #[61] }, .string { data := #[60] }, .string { data := #[43] }, .string { data := #[45] }, .string { data := #[42] }, .string { data := #[95] }]) ?_ rfl ⟨rfl, rfl⟩
  exact results_cell_row rfl _ _ w.heap.size 41 #[.string { data := #[45, 62] }, .string { data := #[58, 58] }, .string { data := #[59, 59] }, .string { data := #[40] }, .string { data := #[41] }, .string { data := #[44] }, .string { data := #[124] }, .string { data := #[61] }, .string { data := #[60] }, .string { data := #[43] }, .string { data := #[45] }, .string { data := #[42] }, .string { data := #[95] }] (0, 0) _ rfl (heap_alloc_new _ _) ul13 rfl info13

/-- a table in a block. -/
def Tab (tab : Array Value) (base g : Nat) (w wr : World) : Prop := (∀ j, j < 13 → wr.cell? ⟨g, j, none⟩ = tab[j]?) ∧ Below base w wr
theorem tab_new (tab : Array Value) (w : World) : Tab tab w.heap.size (w.heap.size + 1) w ((w.alloc (.cells tab 41)).alloc (.cells tab 41)) := by
  refine ⟨fun j hj => ?_, ((Below.refl _ w).alloc (Nat.le_refl _) _).alloc (by simp) _⟩
  rw [cell_of_row _ _ j tab 41 (0, 0) (heap_alloc2_new w _ _)]
end Go.Proofs.Yteialkkpoikelaa
