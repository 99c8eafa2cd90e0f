/- Maps that a call makes, told as lists of keys and values: the values are whatever they are. -/
import Derived.Test.YtmpmibebkflaiaaGreatDoorProg
import Derived.WalkKit
import Derived.Maps.OwnSet
import Derived.Maps.OwnOps
import Derived.Lib.Hide
namespace Go.Proofs.YtmpmibebkflaiaaGreatDoor
open Go.RowKit Go.Maps
open Go.WideAt (IsKeyLit)
set_option linter.unusedVariables false
set_option linter.unusedSectionVars false

/-- a value told as itself. -/
def heldR (v : Value) : Option (DataW Value × List MemPlace) := some (.held v, [])
def lookL (f : List (Lit × Value)) (x : Lit) : Option Value := (f.find? (fun p => p.1.sameKey x)).map (·.2)
theorem sameKey_self {x : Lit} (h : IsKeyLit x) : x.sameKey x = true := by
  cases x <;> simp [IsKeyLit] at h <;> simp [Lit.sameKey]
theorem lookL_snoc (f : List (Lit × Value)) (x y : Lit) (v : Value) (hx : lookL f x = none) (hk : IsKeyLit x) : lookL (f ++ [(x, v)]) y = if x.sameKey y then some v else lookL f y := by
  unfold lookL at *
  rw [List.find?_append]
  by_cases h : x = y
  · subst h
    rw [Option.map_eq_none_iff] at hx
    rw [hx]
    simp [sameKey_self hk]
  · rw [if_neg (by rw [sameKey_ne h]; simp)]
    cases hf : f.find? (fun p => p.1.sameKey y) with
    | some z => simp
    | none => simp [sameKey_ne h]
/-- block b is a map that holds just these. -/
def MapV (P : Program) (k : TypeId) (w : World) (b : Nat) (f : List (Lit × Value)) : Prop :=
  ∃ D, w.ownsMap P k heldR b f.length D ∧ (∀ x, Maps.has D x = (lookL f x).isSome) ∧ (∀ x z, D.atKey x z = match lookL f x with | some v => .held v | none => z) ∧ Maps.size D = f.length
section
variable {P : Program} {k e t : TypeId} {w w' : World} {b : Nat} {f : List (Lit × Value)} {key : Value} {x : Lit}
theorem MapV.made (w : World) (P : Program) (k : TypeId) : MapV P k (w.alloc (.map #[] 0)) w.heap.size [] :=
  ⟨.map [], World.ownsMap_made w P k heldR, fun _ => rfl, fun _ _ => rfl, rfl⟩
theorem MapV.kept {row : Option Nat} (h : MapV P k w b f) (hg : w.grownBy w' row) (hne : some b ≠ row) : MapV P k w' b f := by
  obtain ⟨D, h1, h2⟩ := h
  exact ⟨D, h1.kept hg hne, h2⟩
theorem MapV.same (h : MapV P k w b f) (hb : w'.heap[b]? = w.heap[b]?) : MapV P k w' b f := by
  obtain ⟨D, ⟨es, clock, h1, h2⟩, h3⟩ := h
  exact ⟨D, ⟨es, clock, hb.trans h1, h2⟩, h3⟩
theorem MapV.lt (h : MapV P k w b f) : b < w.heap.size := by
  obtain ⟨D, h1, -⟩ := h
  exact h1.lt
theorem MapV.below (h : MapV P k w b f) {B : Nat} (hb : Below B w w') (hB : b < B) : MapV P k w' b f := h.same (hb.block b hB)
/-- what is asked for is there. -/
theorem MapV.yes (h : MapV P k w b f) (K : Keyed P k) (ht : P.underlying t = some (.map k e)) {z : Value} (hz : (zeroValue e).run P w = .ok z w) (hkey : keyOf P k key = some x) {v : Value} (hv : lookL f x = some v) :
    (Instr.lookup t (.map (some b)) key true).run P w = .ok (.tuple #[v, .bool true]) w := by
  obtain ⟨D, h1, h2, h3, -⟩ := h
  obtain ⟨u, ps, hrun, hu⟩ := h1.look_ok K ht hz (zd := .held z) (zp := []) rfl hkey
  have e1 := h2 x
  have e2 := h3 x (.held z)
  rw [hv] at e1 e2
  simp only [heldR, e2, Option.some.injEq, Prod.mk.injEq, DataW.held.injEq] at hu
  rw [hrun, e1, hu.1]
  rfl
/-- .. is not there. -/
theorem MapV.no (h : MapV P k w b f) (K : Keyed P k) (ht : P.underlying t = some (.map k e)) {z : Value} (hz : (zeroValue e).run P w = .ok z w) (hkey : keyOf P k key = some x) (hv : lookL f x = none) :
    (Instr.lookup t (.map (some b)) key true).run P w = .ok (.tuple #[z, .bool false]) w := by
  obtain ⟨D, h1, h2, h3, -⟩ := h
  obtain ⟨u, ps, hrun, hu⟩ := h1.look_ok K ht hz (zd := .held z) (zp := []) rfl hkey
  have e1 := h2 x
  have e2 := h3 x (.held z)
  rw [hv] at e1 e2
  simp only [heldR, e2, Option.some.injEq, Prod.mk.injEq, DataW.held.injEq] at hu
  rw [hrun, e1, hu.1]
  rfl
theorem MapV.len (h : MapV P k w b f) (ht : P.underlying t = some (.map k e)) (ty : TypeId) : (Builtin.len_ #[t] ty #[.map (some b)]).run P w = .ok (.int .i64 f.length) w := by
  obtain ⟨D, h1, -, -, h4⟩ := h
  rw [h1.len ht ty, h4]
/-- a key more. -/
theorem MapV.put (h : MapV P k w b f) (K : Keyed P k) (ht : P.underlying t = some (.map k e)) (hn : f.length < maxLen) (hkey : keyOf P k key = some x) (hk : IsKeyLit x) (hx : lookL f x = none) (v : Value) :
    ∃ w', (Instr.mapUpdate t (.map (some b)) key v).run P w = .ok () w' ∧ MapV P k w' b (f ++ [(x, v)]) ∧ w.grownBy w' (some b) := by
  obtain ⟨D, h1, h2, h3, h4⟩ := h
  obtain ⟨w', hrun, hown, hg⟩ := h1.update K ht hn hkey (val := v) (d := .held v) (ps := []) rfl
  refine ⟨w', hrun, ⟨D.put x (.held v), by rw [List.length_append]; exact hown, fun y => ?_, fun y z => ?_, ?_⟩, hg⟩
  · rw [lookL_snoc f x y v hx hk]
    by_cases he : x = y
    · subst he
      rw [if_pos (sameKey_self hk)]
      exact has_put_same h1.isMap hk _
    · rw [if_neg (by rw [sameKey_ne he]; simp), ← h2 y]
      exact has_put_other (fun e => he e.symm) _
  · rw [lookL_snoc f x y v hx hk]
    by_cases he : x = y
    · subst he
      rw [if_pos (sameKey_self hk)]
      exact atKey_put_same h1.isMap hk _ _
    · rw [if_neg (by rw [sameKey_ne he]; simp), ← h3 y z]
      exact atKey_put_other (fun e => he e.symm) _ _
  · rw [size_put (h1.tidy K), h2 x, hx, h4, List.length_append]
    rfl
end
end Go.Proofs.YtmpmibebkflaiaaGreatDoor
