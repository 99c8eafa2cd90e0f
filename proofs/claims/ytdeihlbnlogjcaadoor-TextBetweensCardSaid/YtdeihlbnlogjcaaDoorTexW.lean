/- An edit in a block; worlds that have drawn. -/
import Derived.Test.YtdeihlbnlogjcaaDoorTexJ
namespace Go.Proofs.YtdeihlbnlogjcaaDoor
open Go.RowKit Go.Lib Go.Shelf
set_option maxRecDepth 100000
set_option linter.unusedVariables false

theorem blk_set {W : World} {g k : Nat} {cs : Array Value} {t : TypeId} {fr : Nat × Nat} (h : W.heap[g]? = some (.cells cs t fr)) (v : Value) : (W.setCell ⟨g, k, none⟩ v).heap[g]? = some (.cells (cs.setIfInBounds k v) t fr) := by
  simp only [World.setCell, Array.getElem?_modify, if_true, h]
  rfl
/-- an edit in a block. -/
structure FiveB (W : World) (g : Nat) (v0 v1 v2 v3 v4 : Value) : Prop where
  blk : W.heap[g]? = some (.cells #[v0, v1, v2, v3, v4] 60 (0, 0))
theorem FiveB.cells {W : World} {g : Nat} {v0 v1 v2 v3 v4 : Value} (h : FiveB W g v0 v1 v2 v3 v4) :
    (W.cell? ⟨g, 0, none⟩ = some v0 ∧ W.cell? ⟨g, 1, none⟩ = some v1 ∧ W.cell? ⟨g, 2, none⟩ = some v2 ∧ W.cell? ⟨g, 3, none⟩ = some v3 ∧ W.cell? ⟨g, 4, none⟩ = some v4) ∧
    W.frozen? ⟨g, 0, none⟩ = false ∧ W.frozen? ⟨g, 1, none⟩ = false ∧ W.frozen? ⟨g, 2, none⟩ = false ∧ W.frozen? ⟨g, 3, none⟩ = false ∧ W.frozen? ⟨g, 4, none⟩ = false := by
  have h := h.blk
  refine ⟨⟨?_, ?_, ?_, ?_, ?_⟩, ?_, ?_, ?_, ?_, ?_⟩ <;> simp [World.cell?, World.frozen?, h]
theorem FiveB.below {W W' : World} {g : Nat} {v0 v1 v2 v3 v4 : Value} (h : FiveB W g v0 v1 v2 v3 v4) {B : Nat} (hb : Below B W W') (hg : g < B) : FiveB W' g v0 v1 v2 v3 v4 := ⟨(hb.block g hg).trans h.blk⟩
theorem FiveB.lt {W : World} {g : Nat} {v0 v1 v2 v3 v4 : Value} (h : FiveB W g v0 v1 v2 v3 v4) : g < W.heap.size := (Array.getElem?_eq_some_iff.1 h.blk).1
theorem blk_other {W : World} {a : Addr} {u : Value} {g : Nat} {o : Option Obj} (h : W.heap[g]? = o) (hne : g ≠ a.block) : (W.setCell a u).heap[g]? = o := by
  simp only [World.setCell, Array.getElem?_modify]
  rw [if_neg (fun e => hne e.symm)]
  exact h
def DrewQ (w w' : World) : Prop := ∃ q, w' = w.drewN q
theorem DrewQ.refl (w : World) : DrewQ w w := ⟨0, rfl⟩
theorem DrewQ.more {w w' : World} (h : DrewQ w w') (n : Nat) : DrewQ w (w'.drewN n) := by
  obtain ⟨q, rfl⟩ := h
  exact ⟨q + n, by simp⟩
end Go.Proofs.YtdeihlbnlogjcaaDoor
