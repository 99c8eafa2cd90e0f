/- What is said of the reference's first. -/
import Derived.Test.YtdeihlbnlogjcaaDoorUtfR
import Derived.Test.YtdeihlbnlogjcaaDoorUtfW
import Derived.BigQuiet
namespace Go.Proofs.YtdeihlbnlogjcaaDoor
open Go.RowKit Go.Lib Go.Shelf
set_option maxRecDepth 100000
set_option linter.unusedVariables false
set_option linter.unusedSectionVars false

def fR (L : List UInt8) : Int := if L ≠ [] ∧ Ut.okH L then (decodeL L).1 else 0
def fN (L : List UInt8) : Int := if L ≠ [] ∧ Ut.okH L then (decodeL L).2 else 0
open Classical in
/-- what first answers. -/
def FPost (L : List UInt8) (w : World) (e : Ending) (w' : World) : Prop :=
  e = .returned (.tuple #[.int .i64 (if L ≠ [] ∧ Ut.okH L then (decodeL L).1 else 0), .int .i64 (if L ≠ [] ∧ Ut.okH L then (decodeL L).2 else 0)]) ∧ Below w.heap.size w w'
theorem rd_bI {w : World} {g o n : Nat} {L : List UInt8} (hr : ∀ j, j < n * 1 → w.cell? ⟨g, o + j, none⟩ = (bytesV L)[j]?) (hn : n = L.length) {i : Nat} (h : i < n) : w.cell? ⟨g, o + i, none⟩ = some (.int .u8 (Ut.bI L i)) ∧ 0 ≤ Ut.bI L i ∧ Ut.bI L i < 256 := by
  obtain ⟨x, hx, hc⟩ := rd_byte hr hn h
  have e : Ut.bI L i = (x.toNat : Int) := by unfold Ut.bI; rw [List.getD_eq_getElem?_getD, hx]; rfl
  rw [e]
  have := x.toNat_lt
  exact ⟨hc, by omega, by omega⟩
theorem hit_post {L : List UInt8} {k : Nat} {r : Int} (his : Ut.isR r = true) (he : encodeRune r = L.take k) (hk : k ≤ L.length) (hk1 : 1 ≤ k) (w w' : World) (hb : Below w.heap.size w w') : FPost L w (.returned (.tuple #[.int .i64 r, .int .i64 k])) w' := by
  obtain ⟨h1, h2⟩ := Ut.first_hit L r k his he hk
  have hne : L ≠ [] := by
    rintro rfl
    simp at hk
    omega
  have hr : 0 ≤ r := by simp only [Ut.isR, decide_eq_true_eq] at his; omega
  refine ⟨?_, hb⟩
  rw [if_pos ⟨hne, h1⟩, if_pos ⟨hne, h1⟩, h2]
  simp only [Int.toNat_of_nonneg hr]
theorem miss_next {L : List UInt8} {k : Nat} {r : Int} (hr : Ut.rk L k = r) (h : ¬ (Ut.isR r = true ∧ encodeRune r = L.take k)) (hK : L ≠ [] → Ut.okH L → k ≤ (decodeL L).2) : L ≠ [] → Ut.okH L → k + 1 ≤ (decodeL L).2 := by
  intro h1 h2
  have h3 := hK h1 h2
  rcases Nat.lt_or_ge k (decodeL L).2 with h4 | h4
  · exact h4
  · exfalso
    have e : k = (decodeL L).2 := by omega
    obtain ⟨a1, a2, -⟩ := Ut.rk_ok L h1 h2
    rw [← e, hr] at a1
    rw [← e, ← a1] at a2
    exact h ⟨a1 ▸ Ut.dec_isR L h2, a2⟩
theorem none_post {L : List UInt8} {k : Nat} (hk : ¬ (k ≤ L.length ∧ k ≤ 4)) (hK : L ≠ [] → Ut.okH L → k ≤ (decodeL L).2) (w w' : World) (hb : Below w.heap.size w w') : FPost L w (.returned (.tuple #[.int .i64 0, .int .i64 0])) w' := by
  have hn : ¬ (L ≠ [] ∧ Ut.okH L) := fun h => by
    have h1 := hK h.1 h.2
    have h2 := (Ut.rk_ok L h.1 h.2).2.2
    omega
  refine ⟨?_, hb⟩
  rw [if_neg hn, if_neg hn]
theorem conv_rb (W : World) (l : List UInt8) : (convert 22 9 (.slice (some ⟨W.heap.size, 0, none⟩) l.length l.length)).run Tryd.prog (W.alloc (.cells (bytesV l).toArray 5)) = .ok (.string ⟨⟨l⟩⟩) (W.alloc (.cells (bytesV l).toArray 5)) :=
  conv_rd (P := Tryd.prog) (by
    have := Rd.lit W (bytesV l).toArray 5 1 l.length l.length (by simp [bytesV]) (Nat.le_refl _)
    simpa using this) 22 9 5 Tryd.underlying22 Tryd.underlying5 Tryd.underlying9
/-- what is said of first. -/
def FirstC : Prop := ∀ (v : Value) (L : List UInt8) (w : World) (B : Nat) (_ : B ≤ w.heap.size) (_ : Rd w B 1 v L.length (bytesV L)) (_ : L.length ≤ 1099511627776), Calls Tryd.prog 53 #[v] w (FPost L w)
end Go.Proofs.YtdeihlbnlogjcaaDoor
