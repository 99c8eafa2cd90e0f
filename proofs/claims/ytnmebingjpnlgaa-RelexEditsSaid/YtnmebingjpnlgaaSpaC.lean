/- What the spans of a text's own tokens are. -/
import Derived.Test.YtnmebingjpnlgaaSpaB
import Derived.Test.YtnmebingjpnlgaaLexH
namespace Go.Proofs.Ytnmebingjpnlgaa
open Go.RowKit Go.Lib
set_option maxRecDepth 100000
set_option linter.unusedVariables false
set_option linter.unusedSectionVars false

def Rises (p : IT → Bool) (N : Int) : Int → List IT → Prop
  | _, [] => True
  | e, t :: ts => e ≤ t.a ∧ t.a < t.b ∧ t.b ≤ N ∧ (p t = true → t.a + 2 ≤ t.b) ∧ Rises p N t.b ts
def Good (e : Int) (x : Bool × List (Int × Int)) : Prop :=
  (∀ y ∈ x.2, 0 ≤ y.1 ∧ y.1 < y.2 ∧ y.2 ≤ e) ∧ x.2.Pairwise (fun y z => y.2 + 2 ≤ z.1) ∧ (x.1 = false → ∀ y ∈ x.2, y.2 + 2 ≤ e) ∧ (x.1 = true → x.2 ≠ [])
def Cov (acc : List (Int × Int)) (t : IT) : Prop := ∃ i x r, acc = i ++ x :: r ∧ x.1 ≤ t.a ∧ t.b ≤ x.2
theorem step_good {p : IT → Bool} {e : Int} {x : Bool × List (Int × Int)} {t : IT} (h : Good e x) (h0 : 0 ≤ e) (h1 : e ≤ t.a) (h2 : t.a < t.b) (h3 : p t = true → t.a + 2 ≤ t.b) :
    Good t.b (spStep p x t) ∧ (p t = false → Cov (spStep p x t).2 t) ∧ ∀ u, Cov x.2 u → Cov (spStep p x t).2 u := by
  obtain ⟨g1, g2, g3, g4⟩ := h
  obtain ⟨ins, acc⟩ := x
  simp only at g1 g2 g3 g4
  cases hp : p t
  · cases ins
    · have e1 : spStep p (false, acc) t = (true, acc ++ [(t.a, t.b)]) := by unfold spStep; rw [hp]; rfl
      rw [e1]
      refine ⟨⟨?_, ?_, nofun, fun _ => by simp⟩, fun _ => ⟨acc, _, [], rfl, Int.le_refl _, Int.le_refl _⟩, ?_⟩
      · intro y hy
        rcases List.mem_append.1 hy with hy | hy
        · have := g1 y hy; omega
        · obtain rfl := List.mem_singleton.1 hy
          exact ⟨by simp only; omega, h2, Int.le_refl _⟩
      · refine List.pairwise_append.2 ⟨g2, List.pairwise_singleton _ _, fun y hy z hz => ?_⟩
        obtain rfl := List.mem_singleton.1 hz
        have := g3 rfl y hy
        simp only
        omega
      · rintro u ⟨i, y, r, rfl, hy1, hy2⟩
        exact ⟨i, y, r ++ [(t.a, t.b)], by simp, hy1, hy2⟩
    · obtain ⟨i, y, rfl⟩ := last_split (g4 rfl)
      have e1 : spStep p (true, i ++ [y]) t = (true, i ++ [(y.1, t.b)]) := by unfold spStep; rw [hp]; simp [setB]
      rw [e1]
      have hy := g1 y (by simp)
      have hpw := List.pairwise_append.1 g2
      refine ⟨⟨?_, ?_, nofun, fun _ => by simp⟩, fun _ => ⟨i, _, [], rfl, by simp only; omega, Int.le_refl _⟩, ?_⟩
      · intro z hz
        rcases List.mem_append.1 hz with hz | hz
        · have := g1 z (List.mem_append_left _ hz); omega
        · obtain rfl := List.mem_singleton.1 hz
          exact ⟨hy.1, by simp only; omega, Int.le_refl _⟩
      · refine List.pairwise_append.2 ⟨hpw.1, List.pairwise_singleton _ _, fun a ha z hz => ?_⟩
        obtain rfl := List.mem_singleton.1 hz
        exact hpw.2.2 a ha y (by simp)
      · rintro u ⟨j, z, r, hj, hz1, hz2⟩
        rcases List.eq_nil_or_concat r with rfl | ⟨r', z', rfl⟩
        · obtain ⟨rfl, hz⟩ := List.append_inj' hj rfl
          obtain rfl : y = z := by simpa using hz
          exact ⟨i, _, [], rfl, hz1, by simp only; omega⟩
        · have hj' : i ++ [y] = (j ++ z :: r') ++ [z'] := by
            change i ++ [y] = _ at hj
            rw [hj]
            simp
          obtain ⟨rfl, _⟩ := List.append_inj' hj' rfl
          exact ⟨j, z, r' ++ [(y.1, t.b)], by simp, hz1, hz2⟩
  · have e1 : spStep p (ins, acc) t = (false, acc) := by unfold spStep; rw [hp]; rfl
    rw [e1]
    have h3 := h3 hp
    exact ⟨⟨fun y hy => by have := g1 y hy; omega, g2, fun _ y hy => by have := g1 y hy; omega, nofun⟩, nofun, fun u hu => hu⟩
theorem fold_good (p : IT → Bool) (N : Int) : ∀ (ts : List IT) (e : Int) (x : Bool × List (Int × Int)), 0 ≤ e → e ≤ N → Rises p N e ts → Good e x →
    (∃ e', e' ≤ N ∧ Good e' (ts.foldl (spStep p) x)) ∧ (∀ t ∈ ts, p t = false → Cov (ts.foldl (spStep p) x).2 t) ∧ ∀ u, Cov x.2 u → Cov (ts.foldl (spStep p) x).2 u
  | [], e, x, _, he, _, h => ⟨⟨e, he, h⟩, fun _ h => by simp at h, fun _ h => h⟩
  | t :: ts, e, x, h0, he, ⟨h1, h2, h3, h4, h5⟩, h => by
    obtain ⟨g1, g2, g3⟩ := step_good h h0 h1 h2 h4
    obtain ⟨k1, k2, k3⟩ := fold_good p N ts t.b (spStep p x t) (by omega) h3 h5 g1
    refine ⟨k1, fun u hu hp => ?_, fun u hu => k3 u (g3 u hu)⟩
    rcases List.mem_cons.1 hu with rfl | hu
    · exact k3 _ (g2 hp)
    · exact k2 u hu hp
theorem spans_good (p : IT → Bool) (N : Int) (ts : List IT) (hN : 0 ≤ N) (h : Rises p N 0 ts) :
    ((∀ y ∈ spansF p ts, 0 ≤ y.1 ∧ y.1 < y.2 ∧ y.2 ≤ N) ∧ (spansF p ts).Pairwise (fun y z => y.2 + 2 ≤ z.1)) ∧ ∀ t ∈ ts, p t = false → Cov (spansF p ts) t := by
  obtain ⟨⟨e', he, g⟩, k, _⟩ := fold_good p N ts 0 (false, []) (Int.le_refl _) hN h ⟨fun _ h => by simp at h, List.Pairwise.nil, fun _ _ h => by simp at h, nofun⟩
  exact ⟨⟨fun y hy => by have := g.1 y hy; omega, g.2.1⟩, k⟩
theorem rises_toks (s : ByteArray) : ∀ (ts : List Lx.Tok) (e : Nat), Lx.Chain s.data.toList e ts → Rises (isB s [59, 59]) s.size e (ts.map toIT)
  | [], _, _ => trivial
  | t :: ts, e, h => by
    obtain ⟨h1, h2, h3, _, h5⟩ := h
    have hz : s.data.toList.length = s.size := by simp
    refine ⟨by simp only [toIT]; omega, by simp only [toIT]; omega, by simp only [toIT]; omega, fun hp => ?_, rises_toks s ts t.b h5⟩
    simp only [isB, Bool.and_eq_true, beq_iff_eq] at hp
    have hl := congrArg List.length hp.2
    simp only [toIT] at hl ⊢
    rw [wordF_nat s (by omega) (by omega)] at hl
    have e1 : (s.extract t.a t.b).toList.length = t.b - t.a := by
      rw [cut_run (n := t.b - t.a) (by omega), List.length_take, List.length_drop]
      omega
    rw [e1] at hl
    simp at hl
    omega
/-- a token that lies in a span lies in none ahead. -/
theorem cov_at {sp : List (Int × Int)} {t : IT} (hp : sp.Pairwise (fun y z => y.2 + 2 ≤ z.1)) (ht : t.a < t.b) (h : Cov sp t) :
    ∃ (j : Nat) (x : Int × Int), sp[j]? = some x ∧ x.1 ≤ t.a ∧ t.b ≤ x.2 ∧ ∀ (i : Nat) (y : Int × Int), i < j → sp[i]? = some y → y.2 < t.b := by
  obtain ⟨i, x, r, rfl, h1, h2⟩ := h
  refine ⟨i.length, x, by simp, h1, h2, fun k y hk hy => ?_⟩
  rw [List.getElem?_append_left hk] at hy
  have := (List.pairwise_append.1 hp).2.2 y (List.mem_of_getElem? hy) x (by simp)
  omega
end Go.Proofs.Ytnmebingjpnlgaa
