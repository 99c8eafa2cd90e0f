/- RelexApart answers true: the walk. -/
import Derived.Test.YtnmebingjpnlgaaSpaC
import Derived.Test.YtnmebingjpnlgaaRelM
namespace Go.Proofs.Ytnmebingjpnlgaa
open Go.RowKit Go.Lib
set_option maxRecDepth 100000
set_option linter.unusedVariables false
set_option linter.unusedSectionVars false

theorem sp_get : ∀ (l : List (Int × Int)) (k : Nat) (x : Int × Int), l[k]? = some x → (spCells l)[k * 2]? = some (.int .i64 x.1) ∧ (spCells l)[k * 2 + 1]? = some (.int .i64 x.2)
  | [], k, x, h => by simp at h
  | t :: ts, 0, x, h => by obtain rfl : t = x := by simpa using h
                           exact ⟨rfl, rfl⟩
  | t :: ts, k + 1, x, h => by
    have := sp_get ts k x (by simpa using h)
    have e : spCells (t :: ts) = [.int .i64 t.1, .int .i64 t.2] ++ spCells ts := rfl
    rw [e]
    refine ⟨?_, ?_⟩
    · rw [List.getElem?_append_right (by simp; omega)]
      rw [show (k + 1) * 2 - [(Value.int .i64 t.1), (Value.int .i64 t.2)].length = k * 2 by simp; omega]; exact this.1
    · rw [List.getElem?_append_right (by simp; omega)]
      rw [show (k + 1) * 2 + 1 - [(Value.int .i64 t.1), (Value.int .i64 t.2)].length = k * 2 + 1 by simp; omega]; exact this.2
/-- the two cells of a span. -/
theorem rd_sp {w : World} {g o n : Nat} {l : List (Int × Int)} (hr : ∀ j, j < n * 2 → w.cell? ⟨g, o + j, none⟩ = (spCells l)[j]?) (hn : n = l.length) {k : Nat} {x : Int × Int} (h : l[k]? = some x) :
    w.cell? ⟨g, o + k * 2, none⟩ = some (.int .i64 x.1) ∧ w.cell? ⟨g, o + k * 2 + 1, none⟩ = some (.int .i64 x.2) := by
  have hk : k < l.length := by
    rcases Nat.lt_or_ge k l.length with h' | h'
    · exact h'
    · rw [List.getElem?_eq_none h'] at h; cases h
  obtain ⟨h0, h1⟩ := sp_get l k x h
  refine ⟨?_, ?_⟩
  · rw [hr _ (by omega)]; exact h0
  · rw [Nat.add_assoc, hr _ (by omega)]; exact h1
/-- the first span that ends at a token's end or behind it. -/
def At (sp : List (Int × Int)) (t : IT) (j : Nat) : Prop := ∃ x : Int × Int, sp[j]? = some x ∧ x.1 ≤ t.a ∧ t.b ≤ x.2 ∧ ∀ (i : Nat) (y : Int × Int), i < j → sp[i]? = some y → y.2 < t.b
/-- what the pointer owes: it is not beyond any coming token's span. -/
def Ptr (p : IT → Bool) (sp : List (Int × Int)) (ts : List IT) (i k : Nat) : Prop := ∀ (i' : Nat) (t : IT) (j : Nat), i ≤ i' → ts[i']? = some t → p t = false → At sp t j → k ≤ j
theorem ptr_skip {p : IT → Bool} {sp : List (Int × Int)} {ts : List IT} {i k : Nat} (h : Ptr p sp ts i k) : Ptr p sp ts (i + 1) k := fun i' t j hi ht hp ha => h i' t j (by omega) ht hp ha
theorem at_mono {sp : List (Int × Int)} {t u : IT} {j j' : Nat} (h : At sp t j) (h' : At sp u j') (hb : t.b ≤ u.b) : j ≤ j' := by
  obtain ⟨x, hx, _, _, h4⟩ := h
  obtain ⟨y, hy, _, hy2, _⟩ := h'
  rcases Nat.lt_or_ge j' j with h | h
  · have := h4 j' y h hy; omega
  · exact h
theorem ptr_at {p : IT → Bool} {sp : List (Int × Int)} {ts : List IT} {i k : Nat} {t : IT} (hm : ∀ (i' : Nat) (u : IT), i ≤ i' → ts[i']? = some u → t.b ≤ u.b) (h : At sp t k) : Ptr p sp ts (i + 1) k :=
  fun i' u j hi hu hp ha => at_mono h ha (hm i' u (by omega) hu)
theorem rises_pair {p : IT → Bool} {N : Int} : ∀ (ts : List IT) (e : Int), Rises p N e ts → (∀ u ∈ ts, e < u.b) ∧ ts.Pairwise (fun t u => t.b ≤ u.b)
  | [], _, _ => ⟨fun _ h => by simp at h, List.Pairwise.nil⟩
  | t :: ts, e, ⟨h1, h2, h3, h4, h5⟩ => by
    obtain ⟨k1, k2⟩ := rises_pair ts t.b h5
    refine ⟨fun u hu => ?_, List.pairwise_cons.2 ⟨fun u hu => by have := k1 u hu; omega, k2⟩⟩
    rcases List.mem_cons.1 hu with rfl | hu
    · omega
    · have := k1 u hu; omega
theorem pair_get {ts : List IT} (h : ts.Pairwise (fun t u => t.b ≤ u.b)) {i i' : Nat} {t u : IT} (hi : i ≤ i') (ht : ts[i]? = some t) (hu : ts[i']? = some u) : t.b ≤ u.b := by
  rcases Nat.lt_or_ge i i' with h' | h'
  · obtain ⟨h1, rfl⟩ := List.getElem?_eq_some_iff.1 ht
    obtain ⟨h2, rfl⟩ := List.getElem?_eq_some_iff.1 hu
    exact List.pairwise_iff_getElem.1 h i i' h1 h2 h'
  · obtain rfl : i = i' := by omega
    rw [ht] at hu
    obtain rfl := Option.some.inj hu
    exact Int.le_refl _
theorem gap_get {sp : List (Int × Int)} (h : sp.Pairwise (fun y z => y.2 + 2 ≤ z.1)) {i : Nat} {t u : Int × Int} (ht : sp[i]? = some t) (hu : sp[i + 1]? = some u) : t.2 + 2 ≤ u.1 := by
  obtain ⟨h1, rfl⟩ := List.getElem?_eq_some_iff.1 ht
  obtain ⟨h2, rfl⟩ := List.getElem?_eq_some_iff.1 hu
  exact List.pairwise_iff_getElem.1 h i (i + 1) h1 h2 (by omega)
theorem at_of {sp : List (Int × Int)} {t : IT} (hp : sp.Pairwise (fun y z => y.2 + 2 ≤ z.1)) (ht : t.a < t.b) (h : Cov sp t) : ∃ j, At sp t j := by
  obtain ⟨j, x, h⟩ := cov_at hp ht h
  exact ⟨j, x, h⟩
theorem rises_lt {p : IT → Bool} {N : Int} : ∀ (ts : List IT) (e : Int), Rises p N e ts → ∀ u ∈ ts, u.a < u.b
  | t :: ts, e, ⟨h1, h2, h3, h4, h5⟩, u, hu => by
    rcases List.mem_cons.1 hu with rfl | hu
    · exact h2
    · exact rises_lt ts t.b h5 u hu
end Go.Proofs.Ytnmebingjpnlgaa
