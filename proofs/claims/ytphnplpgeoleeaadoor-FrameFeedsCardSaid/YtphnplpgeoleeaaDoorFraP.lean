/- Feeding in pieces: plain maths. -/
import Derived.Test.YtphnplpgeoleeaaDoorFraJ
namespace Go.Proofs.YtphnplpgeoleeaaDoor
open Go.RowKit Go.Lib Go.Shelf
set_option maxRecDepth 100000
set_option linter.unusedVariables false
set_option linter.unusedSectionVars false

theorem isPrefix_app {p s : List UInt8} (t : List UInt8) (h : p.isPrefixOf s = true) : p.isPrefixOf (s ++ t) = true := by
  rw [List.isPrefixOf_iff_prefix] at *
  exact h.trans (List.prefix_append s t)
theorem isPrefix_back {p s t : List UInt8} (hl : p.length ≤ s.length) (h : p.isPrefixOf (s ++ t) = true) : p.isPrefixOf s = true := by
  rw [List.isPrefixOf_iff_prefix] at *
  exact List.prefix_of_prefix_length_le h (List.prefix_append s t) hl
theorem index_app {s sub : List UInt8} (t : List UInt8) (h : 0 ≤ Lib.index s sub) : Lib.index (s ++ t) sub = Lib.index s sub := by
  have hroom := Lib.index_room s sub h
  rcases Lib.index_spec s sub with ⟨h1, _⟩ | ⟨i, h1, h2, h3, h4⟩
  · omega
  · rw [h1]
    refine Lib.index_first (by rw [List.length_append]; omega) ?_ ?_
    · unfold Lib.occAt at h3 ⊢
      rw [List.drop_append_of_le_length h2]
      exact isPrefix_app _ h3
    · intro j hj
      have h5 := h4 j hj
      cases hc : Lib.occAt (s ++ t) sub j
      · rfl
      · unfold Lib.occAt at hc h5
        rw [List.drop_append_of_le_length (by omega)] at hc
        have h6 := isPrefix_back (by rw [List.length_drop]; omega) hc
        rw [h5] at h6
        cases h6
theorem hendF_app {l : List UInt8} (t : List UInt8) (h : hendF l ≠ 0) : hendF (l ++ t) = hendF l := by
  unfold hendF at h ⊢
  cases hp : Lib.hasPrefix l nl
  · rw [hp, if_neg (by simp)] at h
    by_cases hi : 0 ≤ Lib.index l nl2
    · have hroom := Lib.index_room l nl2 hi
      have h4 : nl2.length = 4 := rfl
      have h2 : nl.length = 2 := rfl
      have hq : Lib.hasPrefix (l ++ t) nl = false := by
        cases hq : Lib.hasPrefix (l ++ t) nl
        · rfl
        · have := isPrefix_back (p := nl) (s := l) (t := t) (by omega) hq
          unfold Lib.hasPrefix at hp
          rw [this] at hp
          cases hp
      rw [hq, index_app t hi]
    · rw [if_neg hi] at h
      exact absurd rfl h
  · have : Lib.hasPrefix (l ++ t) nl = true := isPrefix_app t hp
    rw [this, if_pos rfl, if_pos rfl]
theorem measF_app {l : List UInt8} (t : List UInt8) (h : measF l ≠ (0, 0, 0)) : measF (l ++ t) = measF l := by
  unfold measF at h ⊢
  by_cases h0 : hendF (l.take 1024) = 0
  · rw [if_pos h0] at h ⊢
    by_cases hl : 1024 ≤ l.length
    · have ht : (l ++ t).take 1024 = l.take 1024 := by rw [List.take_append_of_le_length hl]
      rw [ht, if_pos h0, if_pos hl, if_pos (by rw [List.length_append]; omega)]
    · rw [if_neg hl] at h
      exact absurd rfl h
  · have hle := hendF_le (l.take 1024)
    rw [List.length_take] at hle
    have ht : hendF ((l ++ t).take 1024) = hendF (l.take 1024) := by
      rw [List.take_append]
      exact hendF_app _ h0
    rw [ht, if_neg h0, if_neg h0, List.take_append_of_le_length (by omega)]
theorem feedF_fuel : ∀ (f g : Nat) (l : List UInt8), l.length ≤ f → l.length ≤ g → feedF f l = feedF g l
  | 0, g, l, hf, hg => by
    obtain rfl : l = [] := List.eq_nil_of_length_eq_zero (by omega)
    exact (feedF_stop (show measF [] = (0, 0, 0) by decide +kernel) (.inl rfl)).symm
  | f + 1, 0, l, hf, hg => by
    obtain rfl : l = [] := List.eq_nil_of_length_eq_zero (by omega)
    exact feedF_stop (show measF [] = (0, 0, 0) by decide +kernel) (.inl rfl)
  | f + 1, g + 1, l, hf, hg => by
    rw [feedF, feedF]
    by_cases h1 : (measF l).2.2 ≠ 0
    · rw [if_pos h1, if_pos h1]
    · rw [if_neg h1, if_neg h1]
      by_cases h2 : (measF l).1 = 0 ∨ l.length < (measF l).1 + (measF l).2.1
      · rw [if_pos h2, if_pos h2]
      · rw [if_neg h2, if_neg h2, feedF_fuel f g _ (by rw [List.length_drop]; omega) (by rw [List.length_drop]; omega)]
theorem feedL_bad {l : List UInt8} {s n e : Nat} (hm : measF l = (s, n, e)) (he : e ≠ 0) : feedL l = ([], [], e) := feedF_bad hm he (Nat.le_refl _)
theorem feedL_stop {l : List UInt8} {s n : Nat} (hm : measF l = (s, n, 0)) (hs : s = 0 ∨ l.length < s + n) : feedL l = ([], l, 0) := feedF_stop hm hs
theorem feedL_step {l : List UInt8} {s n : Nat} (hm : measF l = (s, n, 0)) (hs : s ≠ 0) (hf : s + n ≤ l.length) : feedL l = (((l.drop s).take n) :: (feedL (l.drop (s + n))).1, (feedL (l.drop (s + n))).2) := by
  unfold feedL
  obtain ⟨k, hk⟩ : ∃ k, l.length = k + 1 := ⟨l.length - 1, by omega⟩
  rw [hk, feedF_step hm hs hf, feedF_fuel k (l.drop (s + n)).length _ (by rw [List.length_drop]; omega) (Nat.le_refl _)]
/-- what stands behind is fed behind. -/
def fedB (p : List (List UInt8) × List UInt8 × Nat) (b : List UInt8) : List (List UInt8) × List UInt8 × Nat :=
  if p.2.2 ≠ 0 then (p.1, [], p.2.2) else (p.1 ++ (feedL (p.2.1 ++ b)).1, (feedL (p.2.1 ++ b)).2)
theorem feedL_app (b : List UInt8) : ∀ (k : Nat) (l : List UInt8), l.length ≤ k → feedL (l ++ b) = fedB (feedL l) b := by
  intro k
  induction k with
  | zero =>
    intro l hl
    obtain rfl : l = [] := List.eq_nil_of_length_eq_zero (by omega)
    rw [feedL_stop (l := []) (show measF [] = (0, 0, 0) by decide +kernel) (.inl rfl)]
    rfl
  | succ k ih =>
    intro l hl
    obtain ⟨s, n, e, hm⟩ : ∃ s n e, measF l = (s, n, e) := ⟨_, _, _, rfl⟩
    by_cases he : e = 0
    · subst he
      by_cases hs : s = 0 ∨ l.length < s + n
      · rw [feedL_stop hm hs]
        rfl
      · have hma : measF (l ++ b) = (s, n, 0) := by
          rw [measF_app b (by rw [hm]; intro e; simp at e; omega), hm]
        rw [feedL_step hma (by omega) (by rw [List.length_append]; omega), feedL_step hm (by omega) (by omega), List.drop_append_of_le_length (by omega), List.drop_append_of_le_length (by omega), List.take_append_of_le_length (by rw [List.length_drop]; omega), ih _ (by rw [List.length_drop]; omega)]
        unfold fedB
        dsimp only
        split
        · rfl
        · rfl
    · have hma : measF (l ++ b) = (s, n, e) := by
        rw [measF_app b (by rw [hm]; intro h; simp at h; omega), hm]
      rw [feedL_bad hma he, feedL_bad hm he]
      unfold fedB
      dsimp only
      rw [if_pos he]
theorem feedL_err : ∀ (k : Nat) (l : List UInt8), l.length ≤ k → (feedL l).2.2 ≠ 0 → (feedL l).2.1 = [] ∧ ((feedL l).2.2 = 30 ∨ (feedL l).2.2 = 31) := by
  intro k
  induction k with
  | zero =>
    intro l hl
    obtain rfl : l = [] := List.eq_nil_of_length_eq_zero (by omega)
    rw [feedL_stop (l := []) (show measF [] = (0, 0, 0) by decide +kernel) (.inl rfl)]
    intro h
    exact absurd rfl h
  | succ k ih =>
    intro l hl
    obtain ⟨s, n, e, hm⟩ : ∃ s n e, measF l = (s, n, e) := ⟨_, _, _, rfl⟩
    by_cases he : e = 0
    · subst he
      by_cases hs : s = 0 ∨ l.length < s + n
      · rw [feedL_stop hm hs]
        intro h
        exact absurd rfl h
      · rw [feedL_step hm (by omega) (by omega)]
        exact ih _ (by rw [List.length_drop]; omega)
    · rw [feedL_bad hm he]
      refine fun _ => ⟨rfl, ?_⟩
      dsimp only
      unfold measF at hm
      split at hm
      · split at hm <;> simp at hm <;> omega
      · split at hm
        · simp at hm
          omega
        · split at hm <;> simp at hm <;> omega
end Go.Proofs.YtphnplpgeoleeaaDoor
