/- RelexRows answers true: what a cut leaves. -/
import Derived.Test.YtnmebingjpnlgaaArgC
import Derived.Test.YtnmebingjpnlgaaRelM
import Derived.Deep.QuietTactic
import Derived.BigQuiet
namespace Go.Proofs.Ytnmebingjpnlgaa
open Go.RowKit Go.Lib
set_option maxRecDepth 100000
set_option linter.unusedVariables false
set_option linter.unusedSectionVars false

/-- a value that reads as a text's own tokens. -/
def TokV (S : ByteArray) (v : Value) (w : World) : Prop := Rd w w.heap.size 3 v (Lx.lexF S.data.toList).length (toksCells (Lx.lexF S.data.toList)) ∧ (v = .slice none 0 0 ∨ ∃ g o c, v = .slice (some ⟨g, o, none⟩) (Lx.lexF S.data.toList).length c)
theorem TokV.below {S : ByteArray} {v : Value} {w w' : World} (h : TokV S v w) (hb : Below w.heap.size w w') : TokV S v w' := ⟨(h.1.below hb).more hb.size, h.2⟩
theorem TokV.of_own {S : ByteArray} {v : Value} {w : World} {base : Nat} {e : TypeId} (h : w.ownsRow base e 3 v (Lx.lexF S.data.toList).length (toksCells (Lx.lexF S.data.toList))) : TokV S v w := ⟨Rd.of_own h, own_either h⟩
theorem TokV.form {S : ByteArray} {v : Value} {w : World} (h : TokV S v w) : ∃ (nv : Nat) (A : Option Addr) (c : Nat), nv = (Lx.lexF S.data.toList).length ∧ v = .slice A nv c ∧ nv ≤ c ∧ (A = none ∨ ∃ g o, A = some ⟨g, o, none⟩) := by
  obtain ⟨⟨_, A, c, e, h, _⟩, h2⟩ := h
  refine ⟨_, A, c, rfl, e, h, ?_⟩
  rcases h2 with h2 | ⟨g, o, c', h2⟩
  · rw [h2] at e
    simp only [Value.slice.injEq] at e
    exact .inl e.1.symm
  · rw [h2] at e
    simp only [Value.slice.injEq] at e
    exact .inr ⟨g, o, e.1.symm⟩
theorem TokV.len {S : ByteArray} {v : Value} {w : World} (h : TokV S v w) : ∃ A c, v = .slice A (Lx.lexF S.data.toList).length c ∧ (Lx.lexF S.data.toList).length ≤ c := by
  obtain ⟨⟨_, A, c, e, h, _⟩, _⟩ := h
  exact ⟨A, c, e, h⟩
section
variable (L M : List UInt8) (fr to : Nat) (h1 : fr ≤ to) (h2 : to ≤ L.length)
include h1 h2
theorem front_le2 : frontN L fr ≤ (Lx.lexF (Lx.cutL L M fr to)).length := by
  have h := (relex_list L M fr to h1 h2).2
  have hf := front_le' L fr
  rw [h, List.length_append, List.length_take]
  omega
theorem sum_le : frontN L fr + endN L M fr to ≤ (Lx.lexF L).length ∧ frontN L fr + endN L M fr to ≤ (Lx.lexF (Lx.cutL L M fr to)).length := by
  have h := kept_le ((M.length : Int) - (to - fr)) to ((Lx.lexF L).drop (frontN L fr)).reverse ((Lx.lexF (Lx.cutL L M fr to)).drop (frontN L fr)).reverse
  simp only [List.length_reverse, List.length_drop] at h
  have hf := front_le' L fr
  have hg := front_le2 L M fr to h1 h2
  unfold endN
  omega
theorem front_take : (Lx.lexF (Lx.cutL L M fr to)).take (frontN L fr) = (Lx.lexF L).take (frontN L fr) := by
  have h := (relex_list L M fr to h1 h2).2
  have hf := front_le' L fr
  rw [h, List.take_append_of_le_length (by rw [List.length_take]; omega), List.take_take, Nat.min_self]
end
/-- a front of a list that is read. -/
theorem rd_front {w : World} {B n c f : Nat} {A : Option Addr} {ts : List Lx.Tok} (h : Rd w B 3 (.slice A n c) n (toksCells ts)) (hn : n = ts.length) (hf : f ≤ n) : Rd w B 3 (.slice A f c) (ts.take f).length (toksCells (ts.take f)) := by
  obtain ⟨_, A', c', e, hc, hr⟩ := h
  simp only [Value.slice.injEq] at e
  obtain ⟨rfl, _, rfl⟩ := e
  have hl : (ts.take f).length = f := by rw [List.length_take]; omega
  rw [hl]
  refine ⟨by rw [toksCells_len, hl], A, c, rfl, by omega, fun h0 => ?_⟩
  obtain ⟨g, o, e, hg, hr⟩ := hr (by omega)
  refine ⟨g, o, e, hg, fun j hj => ?_⟩
  rw [hr j (by omega), toks_take, List.getElem?_take, if_pos hj]
theorem cut_bytes (S M : ByteArray) (fr to : Nat) : (S.extract 0 fr ++ M ++ S.extract to S.size).data.toList = Lx.cutL S.data.toList M.data.toList fr to := by
  rw [cut_all]
  unfold agX Lx.cutL
  rw [List.drop_zero]
theorem cut_bytes_size (S M : ByteArray) (fr to : Nat) (h : fr ≤ to) (h2 : to ≤ S.size) : (S.extract 0 fr ++ M ++ S.extract to S.size).size ≤ S.size + M.size := by
  simp only [ByteArray.size_append, ByteArray.size_extract]
  omega
end Go.Proofs.Ytnmebingjpnlgaa
