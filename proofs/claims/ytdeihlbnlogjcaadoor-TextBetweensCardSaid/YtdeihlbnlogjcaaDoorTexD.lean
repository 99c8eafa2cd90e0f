/- The contract of text's Offset. -/
import Derived.Test.YtdeihlbnlogjcaaDoorTexB
import Derived.Test.YtdeihlbnlogjcaaDoorUtfZa
namespace Go.Proofs.YtdeihlbnlogjcaaDoor
open Go.RowKit Go.Lib Go.Shelf
set_option maxRecDepth 100000
set_option linter.unusedVariables false

/-- a line without its line feed. -/
def ownL (L : List UInt8) (k : Nat) : List UInt8 := (Lib.cut (L.drop (startN k L)) [10]).1
def tOffA (L : List UInt8) (line char : Int) : Int := if validD L = true ∧ 0 ≤ line ∧ line ≤ Lib.countByte L 10 ∧ offK (ownL L line.toNat) char = 0 then startN line.toNat L + offA (ownL L line.toNat) char else 0
def tOffK (L : List UInt8) (line char : Int) : Int := if validD L = true then (if 0 ≤ line ∧ line ≤ Lib.countByte L 10 ∧ offK (ownL L line.toNat) char = 0 then 0 else 70) else 40
theorem drop_str (s : ByteArray) (k : Nat) (h : k ≤ s.size) : (s.extract k s.size).data.toList = s.data.toList.drop k := by
  have hL : s.data.toList.length = s.size := by simp
  rw [ByteArray.data_extract, Array.toList_extract, List.extract_eq_take_drop]
  rw [List.take_of_length_le (by rw [List.length_drop]; omega)]
theorem maxL_lt {w : World} (h : MaxL w) : Tryd.lays145_ren.g 1 < w.heap.size := by
  obtain ⟨m, hm⟩ := h
  rcases Nat.lt_or_ge (Tryd.lays145_ren.g 1) w.heap.size with h | h
  · exact h
  · exfalso
    unfold World.cell? at hm
    rw [Array.getElem?_eq_none h] at hm
    cases hm
theorem maxL_below {w w' : World} (h : MaxL w) (hb : Below w.heap.size w w') (hl : Tryd.lays145_ren.g 1 < w.heap.size) : MaxL w' := by
  obtain ⟨m, hm⟩ := h
  exact ⟨m, (hb.cell (p := ⟨Tryd.lays145_ren.g 1, 0, none⟩) hl).trans hm⟩
theorem own_size {s O : ByteArray} {S : Nat} (hO : O = ⟨(Lib.cut (s.data.toList.drop S) [10]).1.toArray⟩) (h : S ≤ s.size) : O.size ≤ s.size := by
  have hL : s.data.toList.length = s.size := by simp
  have e : O.size = (Lib.cut (s.data.toList.drop S) [10]).1.length := by rw [hO]; rfl
  rw [e]
  unfold Lib.cut
  split
  · simp
    omega
  · simp
end Go.Proofs.YtdeihlbnlogjcaaDoor
