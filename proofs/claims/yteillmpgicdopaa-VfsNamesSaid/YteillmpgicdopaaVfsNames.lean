/- VfsNames answers true: the walk. -/
import Derived.Test.YteillmpgicdopaaProg
import Derived.WalkKit
import Derived.Test.YteillmpgicdopaaMem
import Derived.Lib.Hide
import Derived.Deep.Light
import Derived.Deep.QuietTactic
import Derived.BigQuiet
namespace Go.Proofs.Yteillmpgicdopaa
open Go.RowKit Go.Lib
set_option maxRecDepth 100000
set_option linter.unusedVariables false

/-- true, and nothing that was there has turned. -/
def TruePost (w : World) (e : Ending) (w' : World) : Prop := e = .returned (.bool true) ∧ Below w.heap.size w w'
theorem noName_any (w : World) : Calls Try.prog 47 #[.string { data := #[] }] w fun e w' => e = .returned (.bool false) ∧ w = w' := by
  go_enter Try.func47, Try.ntmps47
  go_wp2
  go_ret
  exact ⟨rfl, rfl⟩
theorem noFind_any (p : Value) (w : World) : Calls Try.prog 30 #[p, .string { data := #[] }] w fun e w' => e = .returned (.tuple #[.pointer none, .int .i64 10]) ∧ w = w' := by
  go_enter Try.func30, Try.ntmps30
  go_wp2_with (go_at_call 47; refine (noName_any _).mono ?_; rintro e w' ⟨rfl, rfl⟩)
  go_ret2
  exact ⟨rfl, rfl⟩
theorem noSync_any (p : Value) (w : World) : Calls Try.prog 11 #[p, .string { data := #[] }] w fun e w' => e = .returned (.int .i64 10) ∧ Below w.heap.size w w' := by
  go_enter Try.func11, Try.ntmps11
  go_wp2_with (go_at_call 30; refine (noFind_any _ _).mono ?_; rintro e w' ⟨rfl, rfl⟩)
  go_ret
  exact ⟨rfl, (Below.refl _ _).alloc (Nat.le_refl _) _⟩
theorem new_any (n : Int) (w : World) : Calls Try.prog 10 #[.int .i64 n] w fun e w' => (∃ g, e = .returned (.pointer (some ⟨g, 0, none⟩))) ∧ Below w.heap.size w w' := by
  have hmm := @run_makeMap Try.prog
  go_enter Try.func10, Try.ntmps10
  go_wp2
  go_ret
  exact ⟨⟨_, rfl⟩, ((Below.refl _ _).alloc (Nat.le_refl _) _).alloc (by simp) _⟩

def errNums : List Int := [10, 11, 12, 13, 20, 30, 31, 40, 50, 51, 52, 60, 61, 62, 70, 71, 120, 130, 131, 140, 150, 170, 200, 210, 220, 221]
def limNums : List Int := [32, 65536, 1024, 65536, 64, 32768, 4096, 300, 1073741824, 64, -32700, -32600, -32601, -32602, -32800, -32801, -32802]
/-- two rows of the same numbers in two blocks. -/
def Twin (l : List Int) (g1 g2 : Nat) (base : World) (w : World) : Prop :=
  (∀ j, j < l.length → w.cell? ⟨g1, j, none⟩ = (l.map (Value.int .i64))[j]?) ∧ (∀ j, j < l.length → w.cell? ⟨g2, j, none⟩ = (l.map (Value.int .i64))[j]?) ∧ Below base.heap.size base w
theorem twin_at {l : List Int} {g1 g2 : Nat} {base w : World} (h : Twin l g1 g2 base w) {j : Nat} (hj : j < l.length) : ∃ x, w.cell? ⟨g1, j, none⟩ = some (.int .i64 x) ∧ w.cell? ⟨g2, j, none⟩ = some (.int .i64 x) := by
  refine ⟨l[j], ?_, ?_⟩
  · rw [h.1 j hj]; simp [hj]
  · rw [h.2.1 j hj]; simp [hj]
theorem Twin.drew {l : List Int} {g1 g2 : Nat} {base w : World} (h : Twin l g1 g2 base w) (n : Nat) : Twin l g1 g2 base (w.drewN n) := ⟨h.1, h.2.1, below_drewN h.2.2 n⟩
theorem twin_new (l : List Int) (base w : World) (t1 t2 : TypeId) (h : Below base.heap.size base w) : Twin l w.heap.size (w.heap.size + 1) base ((w.alloc (.cells (l.map (Value.int .i64)).toArray t1)).alloc (.cells (l.map (Value.int .i64)).toArray t2)) := by
  refine ⟨fun j hj => ?_, fun j hj => ?_, (h.alloc h.size _).alloc (by have := h.size; simp; omega) _⟩
  · rw [cell_of_row _ _ j _ _ (0, 0) (heap_alloc2_old w _ _)]; simp
  · rw [cell_of_row _ _ j _ _ (0, 0) (heap_alloc2_new w _ _)]; simp
set_option maxHeartbeats 2000000 in
theorem vfsNames_walk (w : World) : Calls Try.prog 3 #[] w (TruePost w) := by
  go_enter Try.func3, Try.ntmps3
  go_wp2_with (first | (go_at_call 10; refine (new_any _ _).mono ?_; rintro e w1 ⟨⟨g, rfl⟩, hb1⟩) | (go_at_call 11; refine (noSync_any _ _).mono ?_; rintro e w2 ⟨rfl, hb2⟩; have hb := hb1.trans (hb2.mono hb1.size); have HB := Lib.hid hb; clear hb hb1 hb2))
  go_loopw [4] (fun i wr => ∃ j : Nat, j ≤ 26 ∧ i = .int .i64 j ∧ Twin errNums w2.heap.size (w2.heap.size + 1) w wr) (fun i _ => 26 - (intOf i).toNat)
  case atStart => exact ⟨0, by omega, rfl, twin_new errNums w w2 _ _ HB.out⟩
  case round =>
    obtain ⟨j, hj, rfl, htw⟩ := hrel
    have HT := Lib.hid htw
    clear htw
    by_cases hlt : j < 26
    · obtain ⟨x, c1, c2⟩ := twin_at HT.out (j := j) (by simpa [errNums] using hlt)
      have hd : decide ((26 : Int) ≤ j) = false := by simp; omega
      go_wp2
      go_quiet (fail)
      go_wp2
      go_roundw
      case rel => exact ⟨j + 1, by omega, by go_num, HT.out.drew _⟩
      case measure => simp [intOf]; omega
    · go_wp2
      have HB2 := Lib.hid HT.out.2.2
      go_loopw [7] (fun i wq => ∃ j : Nat, j ≤ 17 ∧ i = .int .i64 j ∧ Twin limNums wr.heap.size (wr.heap.size + 1) w wq) (fun i _ => 17 - (intOf i).toNat)
      case atStart => exact ⟨0, by omega, rfl, twin_new limNums w wr _ _ HB2.out⟩
      case round =>
        obtain ⟨k, hk, rfl, htw⟩ := hrel
        have HT2 := Lib.hid htw
        clear htw
        by_cases hlt2 : k < 17
        · obtain ⟨x, c1, c2⟩ := twin_at HT2.out (j := k) (by simpa [limNums] using hlt2)
          have hd : decide ((17 : Int) ≤ k) = false := by simp; omega
          go_wp2
          go_quiet (fail)
          go_wp2
          go_roundw
          case rel => exact ⟨k + 1, by omega, by go_num, HT2.out.drew _⟩
          case measure => simp [intOf]; omega
        · go_wp2
          go_ret
          exact ⟨rfl, HT2.out.2.2⟩
end Go.Proofs.Yteillmpgicdopaa
