/- Words for memory: a slice value that reads as a list of cells. -/
import Derived.Test.YtmpmibebkflaiaaGreatDoorProg
import Derived.WalkKit
import Derived.Deep.Draws
import Derived.Laws.OwnMore
namespace Go.Proofs.YtmpmibebkflaiaaGreatDoor
open Go.RowKit

/-- the slice value v has n elements of so many cells each, and these are the cells xs, in a block below B. -/
def Rd (w : World) (B size : Nat) (v : Value) (n : Nat) (xs : List Value) : Prop :=
  xs.length = n * size ∧ ∃ A c, v = .slice A n c ∧ n ≤ c ∧ (0 < n → ∃ g o, A = some ⟨g, o, none⟩ ∧ g < B ∧ ∀ j, j < n * size → w.cell? ⟨g, o + j, none⟩ = xs[j]?)

section
variable {w w' : World} {B size n : Nat} {v : Value} {xs : List Value}
theorem Rd.keep (h : Rd w B size v n xs) (hk : ∀ p : Addr, p.block < B → w'.cell? p = w.cell? p) : Rd w' B size v n xs := by
  obtain ⟨hl, A, c, rfl, hc, h⟩ := h
  refine ⟨hl, A, c, rfl, hc, fun hn => ?_⟩
  obtain ⟨g, o, rfl, hg, hr⟩ := h hn
  exact ⟨g, o, rfl, hg, fun j hj => (hk ⟨g, o + j, none⟩ hg).trans (hr j hj)⟩
theorem Rd.more {B' : Nat} (h : Rd w B size v n xs) (hB : B ≤ B') : Rd w B' size v n xs := by
  obtain ⟨hl, A, c, rfl, hc, h⟩ := h
  refine ⟨hl, A, c, rfl, hc, fun hn => ?_⟩
  obtain ⟨g, o, rfl, hg, hr⟩ := h hn
  exact ⟨g, o, rfl, by omega, hr⟩
theorem Rd.below (h : Rd w B size v n xs) (hb : Below B w w') : Rd w' B size v n xs := h.keep fun _ hp => hb.cell hp
theorem Rd.drewN (h : Rd w B size v n xs) (k : Nat) : Rd (w.drewN k) B size v n xs := h
theorem Rd.alloc (h : Rd w B size v n xs) (hB : B ≤ w.heap.size) (o : Obj) : Rd (w.alloc o) B size v n xs := h.below ((Below.refl B w).alloc hB o)
theorem Rd.grown {row : Option Nat} (h : Rd w B size v n xs) (hg : w.grownBy w' row) (hB : B ≤ w.heap.size) (hr : ∀ g, row = some g → B ≤ g) : Rd w' B size v n xs := h.below ((Below.refl B w).grown hg hB hr)
theorem Rd.of_own {base : Nat} {e : TypeId} (h : w.ownsRow base e size v n xs) : Rd w w.heap.size size v n xs := by
  refine ⟨h.1, ?_⟩
  rcases h.2 with ⟨rfl, rfl⟩ | ⟨g, cap, cur, rfl, _, hg, hn, _⟩
  · exact ⟨none, 0, rfl, Nat.le_refl _, fun h => absurd h (by omega)⟩
  · refine ⟨some ⟨g, 0, none⟩, cap, rfl, hn, fun _ => ⟨g, 0, rfl, (Array.getElem?_eq_some_iff.1 hg).1, fun j hj => ?_⟩⟩
    rw [Nat.zero_add]
    exact h.cellAt j hj
theorem Rd.nil (w : World) (B size : Nat) (A : Option Addr) (c : Nat) : Rd w B size (.slice A 0 c) 0 [] := ⟨by simp, A, c, rfl, Nat.zero_le _, fun h => absurd h (by omega)⟩
end
/-- a slice literal in a new block. -/
theorem Rd.lit (W : World) (cs : Array Value) (t : TypeId) (size n c : Nat) (hs : cs.size = n * size) (hc : n ≤ c) :
    Rd (W.alloc (.cells cs t)) (W.heap.size + 1) size (.slice (some ⟨W.heap.size, 0, none⟩) n c) n cs.toList := by
  refine ⟨by rw [Array.length_toList]; exact hs, _, _, rfl, hc, fun _ => ⟨_, _, rfl, by omega, fun j _ => ?_⟩⟩
  rw [cell_of_row _ W.heap.size (0 + j) cs t (0, 0) (heap_alloc_new W _)]
  simp
theorem below_drewN {B : Nat} {a w : World} (h : Below B a w) (n : Nat) : Below B a (w.drewN n) := ⟨h.os, h.tape, h.output, h.size, h.block⟩
end Go.Proofs.YtmpmibebkflaiaaGreatDoor
