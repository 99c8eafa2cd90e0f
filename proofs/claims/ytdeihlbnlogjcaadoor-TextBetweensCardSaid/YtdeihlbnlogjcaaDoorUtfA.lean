/- The contracts of utf's width, isRune, Valid. -/
import Derived.Test.YtdeihlbnlogjcaaDoorShelf
import Derived.Test.YtdeihlbnlogjcaaDoorUtfN
import Derived.Test.YtdeihlbnlogjcaaDoorMem
import Derived.Test.YtdeihlbnlogjcaaDoorBytes
import Derived.Lib.Hide
import Derived.Maps.AppendAt
import Derived.Deep.RegionWith
import Derived.Deep.QuietTactic
import Derived.BigQuiet
import Derived.WalkSmall
import Derived.WalkLawsBesides
import Derived.WalkSpells
import Derived.IntWalk
import Derived.Deep.LoopGhost
import Derived.Outline
namespace Go.Proofs.YtdeihlbnlogjcaaDoor
open Go.RowKit Go.Lib Go.Shelf
set_option maxRecDepth 100000
set_option linter.unusedVariables false
set_option linter.unusedSectionVars false

/-- the tables of the library's decoder lie as its text lays them. -/
def Tabs (w : World) : Prop := Lib.Utf8Tabs (Tryd.lays32_ren.g 2) (Tryd.lays32_ren.g 3) w
theorem ret_int {k : IntKind} {a b : Int} (h : a = b) : Ending.returned (.int k a) = .returned (.int k b) := by rw [h]
theorem ret_bool {a b : Bool} (h : a = b) : Ending.returned (.bool a) = .returned (.bool b) := by rw [h]
theorem width_any (r : Int) (w : World) : Calls Tryd.prog 72 #[.int .i64 r] w fun e w' => e = .returned (.int .i64 (Ut.widthR r)) ∧ w = w' := by
  go_enter Tryd.func72, Tryd.ntmps72
  go_wp2
  all_goals go_ret
  all_goals first
    | exact ⟨ret_int (by unfold Ut.widthR; rw [if_pos (by assumption)]), rfl⟩
    | exact ⟨ret_int (by unfold Ut.widthR; rw [if_neg (by omega)]), rfl⟩
theorem isRune_any (r : Int) (w : World) : Calls Tryd.prog 57 #[.int .i64 r] w fun e w' => e = .returned (.bool (Ut.isR r)) ∧ w = w' := by
  by_cases h1 : 0 ≤ r
  · by_cases h2 : r ≤ 1114111
    · by_cases h3 : r < 55296
      · go_enter Tryd.func57, Tryd.ntmps57
        go_wp2
        go_ret
        exact ⟨ret_bool (by simp [Ut.isR]; omega), rfl⟩
      · by_cases h4 : 57344 ≤ r
        · go_enter Tryd.func57, Tryd.ntmps57
          go_wp2
          go_ret
          exact ⟨ret_bool (by simp [Ut.isR]; omega), rfl⟩
        · go_enter Tryd.func57, Tryd.ntmps57
          go_wp2
          go_ret
          exact ⟨ret_bool (by simp [Ut.isR]; omega), rfl⟩
    · go_enter Tryd.func57, Tryd.ntmps57
      go_wp2
      go_ret
      exact ⟨ret_bool (by simp [Ut.isR]; omega), rfl⟩
  · go_enter Tryd.func57, Tryd.ntmps57
    go_wp2
    go_ret
    exact ⟨ret_bool (by simp [Ut.isR]; omega), rfl⟩
/-- the library's decoder at a row of bytes. -/
theorem decode_any (l : List UInt8) (hne : l ≠ []) (b off cap : Nat) (w : World) (hT : Tabs w) (hp : ∀ j, j < l.length → w.cell? ⟨b, off + j, none⟩ = (bytesV l)[j]?) :
    Calls Tryd.prog 52 #[.slice (some ⟨b, off, none⟩) l.length cap] w fun e w' => e = .returned (.tuple #[.int .i32 ((decodeL l).1 : Nat), .int .i64 ((decodeL l).2 : Nat)]) ∧ Below w.heap.size w w' := by
  have h := Any7.utf8_DecodeRune Tryd.lays32 ⟨l.toArray⟩ b off cap w hT (fun j hj => by
    have hj' : j < l.length := by simpa [ByteArray.size] using hj
    rw [hp j hj', bytesV_get l j hj']
    have : (ByteArray.get! ⟨l.toArray⟩ j) = l[j] := by
      simp [ByteArray.get!, hj']
    rw [this])
  have e1 : (ByteArray.size ⟨l.toArray⟩) = l.length := by simp [ByteArray.size]
  rw [e1] at h
  have e2 : Lib.decodeGo ⟨l.toArray⟩ = decodeL l := by
    unfold Lib.decodeGo decodeL
    rw [if_neg (by rw [e1]; intro h; exact hne (List.eq_nil_of_length_eq_zero h))]
  rw [e2] at h
  exact h
end Go.Proofs.YtdeihlbnlogjcaaDoor
