/- Slices of numbers and of bytes that came in. -/
import Derived.Test.YtdeihlbnlogjcaaDoorUtfI
import Derived.ChangeSlices
import Derived.OpenShut
import Derived.WideShapes
namespace Go.Proofs.YtdeihlbnlogjcaaDoor
open Go.RowKit Go.Lib Go.ChangeShapes Go.WideShapes
set_option maxRecDepth 100000
set_option linter.unusedVariables false

theorem ArgI.form {w : World} {v : Value} {L : List Int} (h : ArgI w v L) : (v = .slice none 0 0 ∧ L = []) ∨ (∃ ad c, v = .slice (some ad) 0 c ∧ L = []) ∨ ∃ g o c, v = .slice (some ⟨g, o, none⟩) L.length c ∧ 0 < L.length ∧ L.length ≤ c ∧ g < w.heap.size ∧ ∀ j, j < L.length → w.cell? ⟨g, o + j, none⟩ = (intsV L)[j]? := by
  obtain ⟨⟨hl, A, c, e, hc, hr⟩, h2⟩ := h
  by_cases h0 : L.length = 0
  · obtain rfl := List.eq_nil_of_length_eq_zero h0
    rcases h2 with h2 | ⟨ad, c2, h2⟩
    · exact .inl ⟨h2, rfl⟩
    · exact .inr (.inl ⟨ad, c2, h2, rfl⟩)
  · obtain ⟨g, o, rfl, hg, hr⟩ := hr (by omega)
    exact .inr (.inr ⟨g, o, c, e, by omega, hc, hg, fun j hj => hr j (by omega)⟩)
section
variable {H : Type} {enc : TypeId × Value → H} {W : World} {base : Nat} {spare : Nat → Bool} {held : Bool}
theorem open_intsA {r : Reach} {b0 : Nat} {v : Value} {d : DataW H} {p : List MemPlace} (hv : Value.okWide Tryd.prog W r b0 27 v) (h : DataW.Trod enc Tryd.prog W base spare held 27 v d p) : ∃ L, ArgI W v L := by
  obtain ⟨a, len, cap, rfl⟩ := okWide_slice Tryd.underlying27 hv
  obtain ⟨fuel, hf⟩ := h
  rcases open_ints Tryd.underlying27 Tryd.underlying3 (by kernel_rfl) hf with ⟨hcs, _⟩ | ⟨x, l, c, zs, hcs, _, hl, hm, hz, hx, hcell, hwz⟩
  · simp [Value.cells] at hcs
    obtain ⟨rfl, rfl, rfl⟩ := hcs
    exact ⟨[], Rd.nil _ _ _ _ _, .inl rfl⟩
  · simp [Value.cells] at hcs
    obtain ⟨rfl, rfl, rfl⟩ := hcs
    have hzl : len ≤ zs.length := by rw [hz]; split <;> omega
    refine ⟨zs.take len, ⟨by rw [intsV_len, Nat.mul_one], some x, cap, by rw [List.length_take, Nat.min_eq_left hzl], by rw [List.length_take]; omega, fun hpos => ?_⟩, .inr ⟨x, cap, by rw [List.length_take, Nat.min_eq_left hzl]⟩⟩
    rw [List.length_take] at hpos
    obtain ⟨b, o, rfl, hc⟩ := ints_at hcell (by omega)
    have hblt : b < W.heap.size := Classical.byContradiction fun h => by
      have h0 := hc 0 (by omega)
      unfold World.cell? at h0
      rw [show (⟨b, o + 0, none⟩ : Addr).block = b from rfl, Array.getElem?_eq_none (by omega)] at h0
      cases h0
    refine ⟨b, o, rfl, hblt, fun j hj => ?_⟩
    rw [List.length_take] at hj
    rw [hc j (by omega)]
    unfold intsV
    rw [List.getElem?_map, List.getElem?_take, if_pos (by omega), List.getElem?_eq_getElem (by omega : j < zs.length)]
    simp [List.getD, List.getElem?_eq_getElem (by omega : j < zs.length)]
end
theorem ArgB.form {w : World} {v : Value} {L : List UInt8} (h : ArgB w v L) : (v = .slice none 0 0 ∧ L = []) ∨ (∃ ad c, v = .slice (some ad) 0 c ∧ L = []) ∨ ∃ g o c, v = .slice (some ⟨g, o, none⟩) L.length c ∧ 0 < L.length ∧ L.length ≤ c ∧ g < w.heap.size ∧ ∀ j, j < L.length → w.cell? ⟨g, o + j, none⟩ = (bytesV L)[j]? := by
  obtain ⟨⟨hl, A, c, e, hc, hr⟩, h2⟩ := h
  by_cases h0 : L.length = 0
  · obtain rfl := List.eq_nil_of_length_eq_zero h0
    rcases h2 with h2 | ⟨ad, c2, h2⟩
    · exact .inl ⟨h2, rfl⟩
    · exact .inr (.inl ⟨ad, c2, h2, rfl⟩)
  · obtain ⟨g, o, rfl, hg, hr⟩ := hr (by omega)
    exact .inr (.inr ⟨g, o, c, e, by omega, hc, hg, fun j hj => hr j (by omega)⟩)
section
variable {H : Type} {enc : TypeId × Value → H} {W : World} {base : Nat} {spare : Nat → Bool} {held : Bool}
theorem open_bytesA {r : Reach} {b0 : Nat} {v : Value} {d : DataW H} {p : List MemPlace} (hv : Value.okWide Tryd.prog W r b0 22 v) (h : DataW.Trod enc Tryd.prog W base spare held 22 v d p) : ∃ L, ArgB W v L := by
  obtain ⟨a, len, cap, rfl⟩ := okWide_slice Tryd.underlying22 hv
  obtain ⟨fuel, hf⟩ := h
  rcases open_ints Tryd.underlying22 Tryd.underlying5 (by kernel_rfl) hf with ⟨hcs, _⟩ | ⟨x, l, c, zs, hcs, _, hl, hm, hz, hx, hcell, hwz⟩
  · simp [Value.cells] at hcs
    obtain ⟨rfl, rfl, rfl⟩ := hcs
    exact ⟨[], Rd.nil _ _ _ _ _, .inl rfl⟩
  · simp [Value.cells] at hcs
    obtain ⟨rfl, rfl, rfl⟩ := hcs
    have hzl : len ≤ zs.length := by rw [hz]; split <;> omega
    have hwf : ∀ n ∈ zs, 0 ≤ n ∧ n < 256 := fun n hn => by
      have := hwz n hn
      simp [Lit.wf] at this
      have h0 : IntKind.u8.min = 0 := rfl
      have h1 : IntKind.u8.max = 255 := rfl
      omega
    refine ⟨(zs.take len).map fun z => z.toNat.toUInt8, ⟨by rw [bytesV_len, Nat.mul_one], some x, cap, by rw [List.length_map, List.length_take, Nat.min_eq_left hzl], by rw [List.length_map, List.length_take]; omega, fun hpos => ?_⟩, .inr ⟨x, cap, by rw [List.length_map, List.length_take, Nat.min_eq_left hzl]⟩⟩
    rw [List.length_map, List.length_take] at hpos
    obtain ⟨b, o, rfl, hc⟩ := ints_at hcell (by omega)
    have hblt : b < W.heap.size := Classical.byContradiction fun h => by
      have h0 := hc 0 (by omega)
      unfold World.cell? at h0
      rw [show (⟨b, o + 0, none⟩ : Addr).block = b from rfl, Array.getElem?_eq_none (by omega)] at h0
      cases h0
    refine ⟨b, o, rfl, hblt, fun j hj => ?_⟩
    rw [List.length_map, List.length_take] at hj
    have hj2 : j < zs.length := by omega
    rw [hc j (by omega)]
    unfold bytesV
    rw [List.getElem?_map, List.getElem?_map, List.getElem?_take, if_pos (by omega), List.getElem?_eq_getElem hj2]
    have h := hwf zs[j] (List.getElem_mem hj2)
    simp [List.getD, List.getElem?_eq_getElem hj2, byteV]
    omega
end
end Go.Proofs.YtdeihlbnlogjcaaDoor
