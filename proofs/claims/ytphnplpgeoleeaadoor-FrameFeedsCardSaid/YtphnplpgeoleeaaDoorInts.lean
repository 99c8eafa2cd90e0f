/- Slices of numbers that came in. -/
import Derived.Test.YtphnplpgeoleeaaDoorByt
namespace Go.Proofs.YtphnplpgeoleeaaDoor
open Go.RowKit Go.Lib Go.ChangeShapes Go.WideShapes
set_option maxRecDepth 100000
set_option linter.unusedVariables false
set_option linter.unusedSectionVars false

def intsV (l : List Int) : List Value := l.map (Value.int .i64)
theorem intsV_len (l : List Int) : (intsV l).length = l.length := by simp [intsV]
theorem intsV_app (a b : List Int) : intsV (a ++ b) = intsV a ++ intsV b := by simp [intsV]
theorem intsV_plain (l : List Int) : ∀ u ∈ intsV l, u.oneCell' = true := by
  intro u hu
  simp only [intsV, List.mem_map] at hu
  obtain ⟨x, _, rfl⟩ := hu
  rfl
theorem intsV_get {l : List Int} {k : Nat} {x : Int} (h : l[k]? = some x) : (intsV l)[k]? = some (.int .i64 x) := by simp [intsV, h]
/-- a slice that came in and reads as these numbers. -/
def ArgI (w : World) (v : Value) (l : List Int) : Prop := Rd w w.heap.size 1 v l.length (intsV l) ∧ (v = .slice none 0 0 ∨ ∃ a c, v = .slice (some a) l.length c)
theorem ArgI.form {w : World} {v : Value} {L : List Int} (h : ArgI w v L) : (v = .slice none 0 0 ∧ L = []) ∨ (∃ ad c, v = .slice (some ad) 0 c ∧ L = []) ∨ ∃ g o c, v = .slice (some ⟨g, o, none⟩) L.length c ∧ 0 < L.length ∧ L.length ≤ c ∧ g < w.heap.size ∧ ∀ j, j < L.length → w.cell? ⟨g, o + j, none⟩ = (intsV L)[j]? := by
  obtain ⟨⟨hl, A, c, e, hc, hr⟩, h2⟩ := h
  by_cases h0 : L.length = 0
  · obtain rfl := List.eq_nil_of_length_eq_zero h0
    rcases h2 with h2 | ⟨ad, c2, h2⟩
    · exact .inl ⟨h2, rfl⟩
    · exact .inr (.inl ⟨ad, c2, h2, rfl⟩)
  · obtain ⟨g, o, rfl, hg, hr⟩ := hr (by omega)
    exact .inr (.inr ⟨g, o, c, e, by omega, hc, hg, fun j hj => hr j (by omega)⟩)
section
variable {H : Type} {enc : TypeId × Value → H} {W : World} {base : Nat} {spare : Nat → Bool} {held : Bool}
theorem open_intsA {r : Reach} {b0 : Nat} {v : Value} {d : DataW H} {p : List MemPlace} (hv : Value.okWide Tryd.prog W r b0 42 v) (h : DataW.Trod enc Tryd.prog W base spare held 42 v d p) : ∃ L, ArgI W v L := by
  obtain ⟨a, len, cap, rfl⟩ := okWide_slice Tryd.underlying42 hv
  obtain ⟨fuel, hf⟩ := h
  rcases open_ints Tryd.underlying42 Tryd.underlying3 (by kernel_rfl) hf with ⟨hcs, _⟩ | ⟨x, l, c, zs, hcs, _, hl, hm, hz, hx, hcell, hwz⟩
  · simp [Value.cells] at hcs
    obtain ⟨rfl, rfl, rfl⟩ := hcs
    exact ⟨[], Rd.nil _ _ _ _ _, .inl rfl⟩
  · simp [Value.cells] at hcs
    obtain ⟨rfl, rfl, rfl⟩ := hcs
    have hzl : len ≤ zs.length := by rw [hz]; split <;> omega
    refine ⟨zs.take len, ⟨by rw [intsV_len, Nat.mul_one], some x, cap, by rw [List.length_take, Nat.min_eq_left hzl], by rw [List.length_take]; omega, fun hpos => ?_⟩, .inr ⟨x, cap, by rw [List.length_take, Nat.min_eq_left hzl]⟩⟩
    rw [List.length_take] at hpos
    obtain ⟨b, o, rfl, hc⟩ := ints_at hcell (by omega)
    have hblt : b < W.heap.size := Classical.byContradiction fun h => by
      have h0 := hc 0 (by omega)
      unfold World.cell? at h0
      rw [show (⟨b, o + 0, none⟩ : Addr).block = b from rfl, Array.getElem?_eq_none (by omega)] at h0
      cases h0
    refine ⟨b, o, rfl, hblt, fun j hj => ?_⟩
    rw [List.length_take] at hj
    rw [hc j (by omega)]
    unfold intsV
    rw [List.getElem?_map, List.getElem?_take, if_pos (by omega), List.getElem?_eq_getElem (by omega : j < zs.length)]
    simp [List.getD, List.getElem?_eq_getElem (by omega : j < zs.length)]
end
end Go.Proofs.YtphnplpgeoleeaaDoor
