/- The cells of tokens. -/
import Derived.Test.YtmpmibebkflaiaaGreatDoorLexE
import Derived.Test.YtmpmibebkflaiaaGreatDoorMem
import Derived.Deep.QuietTactic
import Derived.BigQuiet
namespace Go.Proofs.YtmpmibebkflaiaaGreatDoor
open Go.RowKit Go.Lib
set_option maxRecDepth 100000

/-- the three cells of a token. -/
theorem toks_get : ∀ (ts : List Lx.Tok) (k : Nat) (h : k < ts.length), (toksCells ts)[k * 3]? = some (.int .i64 (ts[k].kind : Int)) ∧ (toksCells ts)[k * 3 + 1]? = some (.int .i64 (ts[k].a : Int)) ∧ (toksCells ts)[k * 3 + 2]? = some (.int .i64 (ts[k].b : Int))
  | t :: ts, 0, _ => by simp [toksCells, tokCells]
  | t :: ts, k + 1, h => by
    have := toks_get ts k (by simpa using h)
    have e : toksCells (t :: ts) = tokCells t ++ toksCells ts := by simp [toksCells]
    have e0 : ∀ j, (toksCells (t :: ts))[3 + j]? = (toksCells ts)[j]? := by
      intro j
      rw [e, List.getElem?_append_right (by simp [tokCells])]
      simp [tokCells]
    have a0 : (k + 1) * 3 = 3 + k * 3 := by omega
    have a1 : (k + 1) * 3 + 1 = 3 + (k * 3 + 1) := by omega
    have a2 : (k + 1) * 3 + 2 = 3 + (k * 3 + 2) := by omega
    rw [a2, a1, a0, e0, e0, e0]
    simpa using this
theorem rd_tok {w : World} {g o n : Nat} {ts : List Lx.Tok} (hr : ∀ j, j < n * 3 → w.cell? ⟨g, o + j, none⟩ = (toksCells ts)[j]?) (hn : n = ts.length) {k : Nat} (h : k < n) :
    ∃ t, ts[k]? = some t ∧ w.cell? ⟨g, o + k * 3, none⟩ = some (.int .i64 (t.kind : Int)) ∧ w.cell? ⟨g, o + k * 3 + 1, none⟩ = some (.int .i64 (t.a : Int)) ∧ w.cell? ⟨g, o + k * 3 + 2, none⟩ = some (.int .i64 (t.b : Int)) := by
  have hk : k < ts.length := by omega
  obtain ⟨c0, c1, c2⟩ := toks_get ts k hk
  refine ⟨ts[k], List.getElem?_eq_getElem hk, ?_, ?_, ?_⟩
  · rw [hr _ (by omega)]; exact c0
  · rw [Nat.add_assoc, hr _ (by omega)]; exact c1
  · rw [Nat.add_assoc, hr _ (by omega)]; exact c2
end Go.Proofs.YtmpmibebkflaiaaGreatDoor
