/- The reference's length: plain maths. -/
import Derived.Test.YtphnplpgeoleeaaDoorFraRb
namespace Go.Proofs.YtphnplpgeoleeaaDoor
open Go.RowKit Go.Lib Go.Shelf
set_option maxRecDepth 100000
set_option linter.unusedVariables false
set_option linter.unusedSectionVars false

/-- lines that stand ahead of an empty one. -/
def GoodT (T : List UInt8) : Prop := hendF (T ++ nl) = T.length + 2
theorem occ_append {s t sub : List UInt8} {j : Nat} (hj : j + sub.length ≤ s.length) : Lib.occAt (s ++ t) sub j = Lib.occAt s sub j := by
  unfold Lib.occAt
  rw [List.drop_append_of_le_length (by omega)]
  cases h : sub.isPrefixOf (s.drop j)
  · cases h2 : sub.isPrefixOf (s.drop j ++ t)
    · rfl
    · have := isPrefix_back (by rw [List.length_drop]; omega) h2
      rw [h] at this
      cases this
  · exact isPrefix_app t h
theorem goodT_shape {T : List UInt8} (h : GoodT T) (h0 : T ≠ []) : Lib.hasPrefix (T ++ nl) nl = false ∧ Lib.index (T ++ nl) nl2 + 2 = T.length ∧ Lib.occAt T nl (T.length - 2) = true ∧ 2 ≤ T.length := by
  unfold GoodT hendF at h
  have hp : 0 < T.length := List.length_pos_iff.2 h0
  cases hpre : Lib.hasPrefix (T ++ nl) nl
  · rw [hpre, if_neg (by simp)] at h
    by_cases hi : 0 ≤ Lib.index (T ++ nl) nl2
    · rw [if_pos hi] at h
      have hidx : Lib.index (T ++ nl) nl2 + 2 = T.length := by omega
      refine ⟨rfl, hidx, ?_, by omega⟩
      rcases Lib.index_spec (T ++ nl) nl2 with ⟨h1, _⟩ | ⟨k, h1, h2, h3, _⟩
      · omega
      · have hk : k = T.length - 2 := by omega
        rw [occ_take, decide_eq_true_eq] at h3
        rw [occ_take, decide_eq_true_eq, ← hk]
        have h4 := congrArg (List.take 2) h3
        rw [List.take_take, List.drop_append_of_le_length (by omega), List.take_append_of_le_length (by rw [List.length_drop]; have : nl2.length = 4 := rfl; omega)] at h4
        exact h4
    · rw [if_neg hi] at h
      omega
  · rw [hpre, if_pos rfl] at h
    omega
/-- the first line, and what stands behind it. -/
theorem goodT_step {T : List UInt8} (h : GoodT T) (h0 : T ≠ []) : ∃ k, 0 < k ∧ k + 2 ≤ T.length ∧ Lib.occAt T nl k = true ∧ (∀ j, j < k → Lib.occAt T nl j = false) ∧ Lib.cut (T ++ nl) nl = (T.take k, T.drop (k + 2) ++ nl, true) ∧ GoodT (T.drop (k + 2)) := by
  obtain ⟨hp, hi, ho, hl⟩ := goodT_shape h h0
  have hl2 : nl.length = 2 := rfl
  have hl4 : nl2.length = 4 := rfl
  rcases Lib.index_spec T nl with ⟨_, h1⟩ | ⟨k, h1, h2, h3, h4⟩
  · rw [h1 _ (by omega)] at ho
    cases ho
  · have hroom := Lib.index_room T nl (by omega)
    have hk2 : k + 2 ≤ T.length := by omega
    have hidx : Lib.index (T ++ nl) nl = k := by
      rw [index_app nl (by omega), h1]
    have hk0 : 0 < k := by
      rcases Nat.eq_zero_or_pos k with h5 | h5
      · exfalso
        subst h5
        have h6 : Lib.occAt (T ++ nl) nl 0 = true := by rw [occ_append (by omega)]; exact h3
        have h7 : Lib.hasPrefix (T ++ nl) nl = true := h6
        rw [hp] at h7
        cases h7
      · exact h5
    refine ⟨k, hk0, hk2, h3, h4, ?_, ?_⟩
    · unfold Lib.cut
      rw [hidx, if_pos (by omega), Int.toNat_natCast, List.take_append_of_le_length (by omega), hl2, List.drop_append_of_le_length hk2]
    · by_cases hT : T.drop (k + 2) = []
      · rw [hT]
        show hendF ([] ++ nl) = 2
        decide +kernel
      · have hlt : k + 2 < T.length := by
          rcases Nat.lt_or_ge (k + 2) T.length with h5 | h5
          · exact h5
          · exact absurd (List.drop_eq_nil_of_le h5) hT
        rw [occ_take, decide_eq_true_eq] at ho h3
        have hk3 : k + 4 ≤ T.length := by
          rcases Nat.lt_or_ge (k + 3) T.length with h5 | h5
          · exact h5
          · exfalso
            have h6 : T.length - 2 = k + 1 := by omega
            rw [h6, hl2] at ho
            rw [hl2] at h3
            have a1 : T[k + 1]? = some 10 := by
              have : ((T.drop k).take 2)[1]? = some 10 := by rw [h3]; rfl
              rwa [List.getElem?_take, if_pos (by omega), List.getElem?_drop] at this
            have a2 : T[k + 1]? = some 13 := by
              have : ((T.drop (k + 1)).take 2)[0]? = some 13 := by rw [ho]; rfl
              rwa [List.getElem?_take, if_pos (by omega), List.getElem?_drop] at this
            rw [a1] at a2
            cases a2
        have hno : Lib.NoOcc (T ++ nl) nl2 (k + 2) := by
          intro j hj
          rcases Lib.index_spec (T ++ nl) nl2 with ⟨h5, _⟩ | ⟨i, h5, _, _, h6⟩
          · omega
          · exact h6 j (by omega)
        have hd := Lib.index_drop hno (by rw [List.length_append]; omega)
        rw [List.drop_append_of_le_length hk2] at hd
        have hge := Lib.index_ge (T.drop (k + 2) ++ nl) nl2
        have hI : Lib.index (T.drop (k + 2) ++ nl) nl2 + 2 = (T.drop (k + 2)).length := by
          rw [List.length_drop]
          split at hd
          · omega
          · omega
        have hpre : Lib.hasPrefix (T.drop (k + 2) ++ nl) nl = false := by
          cases hq : Lib.hasPrefix (T.drop (k + 2) ++ nl) nl
          · rfl
          · exfalso
            have h5 : Lib.occAt (T ++ nl) nl2 k = true := by
              unfold Lib.hasPrefix at hq
              rw [List.isPrefixOf_iff_prefix] at hq
              obtain ⟨t, ht⟩ := hq
              unfold Lib.occAt
              rw [List.isPrefixOf_iff_prefix, List.drop_append_of_le_length (by omega)]
              refine ⟨t, ?_⟩
              rw [hl2] at h3
              have h6 : T.drop k = nl ++ T.drop (k + 2) := by
                have h7 := List.take_append_drop 2 (T.drop k)
                rw [h3, List.drop_drop] at h7
                exact h7.symm
              rw [h6, List.append_assoc, ← ht]
              simp [nl, nl2]
            rcases Lib.index_spec (T ++ nl) nl2 with ⟨h6, _⟩ | ⟨i, h6, _, _, h7⟩
            · omega
            · rw [h7 k (by omega)] at h5
              cases h5
        unfold GoodT hendF
        rw [hpre, if_neg (by simp), if_pos (by have := List.length_pos_iff.2 hT; omega)]
        omega
theorem goodT_head {H : List UInt8} (h : hendF H = H.length) (h0 : 0 < H.length) : ∃ T, H = T ++ nl ∧ GoodT T := by
  have hl2 : nl.length = 2 := rfl
  have hl4 : nl2.length = 4 := rfl
  have key : 2 ≤ H.length ∧ H.drop (H.length - 2) = nl := by
    have h1 := h
    unfold hendF at h1
    cases hp : Lib.hasPrefix H nl
    · rw [hp, if_neg (by simp)] at h1
      by_cases hi : 0 ≤ Lib.index H nl2
      · rw [if_pos hi] at h1
        rcases Lib.index_spec H nl2 with ⟨h2, _⟩ | ⟨k, h2, h3, h4, _⟩
        · omega
        · have hk : k + 4 = H.length := by omega
          rw [occ_take, decide_eq_true_eq, hl4] at h4
          refine ⟨by omega, ?_⟩
          have h5 : H.drop k = nl2 := by
            rw [← h4, List.take_of_length_le (by rw [List.length_drop]; omega)]
          have h6 : H.drop (H.length - 2) = (H.drop k).drop 2 := by rw [List.drop_drop]; congr 1; omega
          rw [h6, h5]
          rfl
      · rw [if_neg hi] at h1
        omega
    · rw [hp, if_pos rfl] at h1
      unfold Lib.hasPrefix at hp
      rw [List.isPrefixOf_iff_prefix] at hp
      refine ⟨by omega, ?_⟩
      rw [← h1, Nat.sub_self, List.drop_zero]
      exact (hp.eq_of_length (by omega)).symm
  refine ⟨H.take (H.length - 2), ?_, ?_⟩
  · rw [← key.2, List.take_append_drop]
  · unfold GoodT
    rw [← key.2, List.take_append_drop, h, List.length_take]
    omega
theorem bodyF_ge : ∀ (a : List (List UInt8)) (s f s' f' : Nat), bodyF a s f = some (s', f') → f ≤ f'
  | [], s, f, s', f', h => by
    simp [bodyF] at h
    omega
  | x :: r, s, f, s', f', h => by
    rw [bodyF] at h
    split at h
    · cases h
    · exact bodyF_ge r _ _ _ _ h
    · have := bodyF_ge r _ _ _ _ h
      omega
/-- what the reference's length answers. -/
def lengthZ (H : List UInt8) : Int := match sizeF H with | none => -1 | some n => n
theorem linesN_any : ∀ (f g : Nat) (T : List UInt8), GoodT T → T.length ≤ f → T.length ≤ g → linesN f (T ++ nl) = linesN g (T ++ nl) := by
  intro f
  induction f with
  | zero =>
    intro g T hg hf hgl
    obtain rfl : T = [] := List.eq_nil_of_length_eq_zero (by omega)
    cases g with
    | zero => rfl
    | succ g => rw [linesN, linesN, if_pos (by decide +kernel)]
  | succ f ih =>
    intro g T hg hf hgl
    by_cases h0 : T = []
    · subst h0
      cases g with
      | zero => rw [linesN, linesN, if_pos (by decide +kernel)]
      | succ g => rw [linesN, linesN, if_pos (by decide +kernel), if_pos (by decide +kernel)]
    · obtain ⟨k, hk0, hk2, _, _, hc, hgd⟩ := goodT_step hg h0
      have hne : T.take k ≠ [] := fun h => by
        have h2 : (T.take k).length = 0 := by rw [h]; rfl
        rw [List.length_take] at h2
        omega
      cases g with
      | zero =>
        have : 0 < T.length := List.length_pos_iff.2 h0
        omega
      | succ g =>
        rw [linesN, linesN, hc]
        dsimp only
        rw [if_neg hne, if_neg hne, ih g (T.drop (k + 2)) hgd (by rw [List.length_drop]; omega) (by rw [List.length_drop]; omega)]
/-- the lines of what stands ahead of the empty one. -/
def linesT (T : List UInt8) : List (List UInt8) := linesN T.length (T ++ nl)
theorem linesT_nil : linesT [] = [] := rfl
theorem linesT_step {T : List UInt8} {k : Nat} (hg : GoodT T) (h0 : T ≠ []) (hc : Lib.cut (T ++ nl) nl = (T.take k, T.drop (k + 2) ++ nl, true)) (hk0 : 0 < k) (hk2 : k + 2 ≤ T.length) (hgd : GoodT (T.drop (k + 2))) : linesT T = T.take k :: linesT (T.drop (k + 2)) := by
  have hne : T.take k ≠ [] := fun h => by
    have h2 : (T.take k).length = 0 := by rw [h]; rfl
    rw [List.length_take] at h2
    omega
  unfold linesT
  obtain ⟨f, hf⟩ : ∃ f, T.length = f + 1 := ⟨T.length - 1, by omega⟩
  rw [hf, linesN, hc]
  dsimp only
  rw [if_neg hne, linesN_any f _ (T.drop (k + 2)) hgd (by rw [List.length_drop]; omega) (Nat.le_refl _)]
theorem linesF_T {T : List UInt8} (hg : GoodT T) : linesF (T ++ nl) = linesT T := by
  unfold linesF linesT
  exact linesN_any _ _ T hg (by rw [List.length_append]; omega) (Nat.le_refl _)
/-- what has been told of the lines ahead. -/
def LenI (H T : List UInt8) (z : Int) : Prop := ∃ (pre : List (List UInt8)) (s f : Nat), linesF H = pre ++ linesT T ∧ bodyF pre 0 0 = some (s, f) ∧ ((f = 0 ∧ z = -1) ∨ (f = 1 ∧ z = s)) ∧ GoodT T
theorem lenI_start {H T : List UInt8} (h : H = T ++ nl) (hg : GoodT T) : LenI H T (-1) := ⟨[], 0, 0, by rw [h, linesF_T hg]; rfl, rfl, .inl ⟨rfl, rfl⟩, hg⟩
theorem lenI_end {H : List UInt8} {z : Int} (h : LenI H [] z) : lengthZ H = z := by
  obtain ⟨pre, s, f, h1, h2, h3, _⟩ := h
  rw [linesT_nil, List.append_nil] at h1
  unfold lengthZ
  rcases h3 with ⟨rfl, rfl⟩ | ⟨rfl, rfl⟩
  · rw [sizeF_many (by rw [h1]; exact h2) (by decide)]
  · rw [sizeF_some (by rw [h1]; exact h2)]
theorem lenI_none {H T : List UInt8} {z : Int} {k : Nat} (h : LenI H T z) (hl : linesT T = T.take k :: linesT (T.drop (k + 2))) (hf : fieldF (T.take k) = none) : lengthZ H = -1 := by
  obtain ⟨pre, s, f, h1, h2, h3, _⟩ := h
  have h4 : bodyF (pre ++ [T.take k]) 0 0 = none := by rw [bodyF_snoc h2, hf]
  have h5 : bodyF (linesF H) 0 0 = none := by
    rw [h1, hl]
    have := bodyF_none h4 (linesT (T.drop (k + 2)))
    simpa using this
  unfold lengthZ
  rw [sizeF_none h5]
theorem lenI_two {H T : List UInt8} {z : Int} {k n : Nat} (h : LenI H T z) (hz : 0 ≤ z) (hl : linesT T = T.take k :: linesT (T.drop (k + 2))) (hf : fieldF (T.take k) = some (some n)) : lengthZ H = -1 := by
  obtain ⟨pre, s, f, h1, h2, h3, _⟩ := h
  have hf1 : f = 1 := by
    rcases h3 with ⟨_, h⟩ | ⟨h, _⟩
    · omega
    · exact h
  subst hf1
  have h4 : bodyF (pre ++ [T.take k]) 0 0 = some (n, 2) := by rw [bodyF_snoc h2, hf]
  have h5 : linesF H = (pre ++ [T.take k]) ++ linesT (T.drop (k + 2)) := by rw [h1, hl]; simp
  unfold lengthZ
  cases hb : bodyF (linesF H) 0 0 with
  | none => rw [sizeF_none hb]
  | some p =>
    obtain ⟨s', f'⟩ := p
    have h6 := hb
    rw [h5, bodyF_append, h4] at h6
    have h7 := bodyF_ge _ _ _ _ _ h6
    rw [sizeF_many hb (by omega)]
theorem lenI_next {H T : List UInt8} {z : Int} {k : Nat} (h : LenI H T z) (hl : linesT T = T.take k :: linesT (T.drop (k + 2))) (hgd : GoodT (T.drop (k + 2))) : (fieldF (T.take k) = some none → LenI H (T.drop (k + 2)) z) ∧ (∀ n, fieldF (T.take k) = some (some n) → z = -1 → LenI H (T.drop (k + 2)) n) := by
  obtain ⟨pre, s, f, h1, h2, h3, _⟩ := h
  have h5 : linesF H = (pre ++ [T.take k]) ++ linesT (T.drop (k + 2)) := by rw [h1, hl]; simp
  constructor
  · intro hf
    exact ⟨_, s, f, h5, by rw [bodyF_snoc h2, hf], h3, hgd⟩
  · intro n hf hz
    have hf0 : f = 0 := by
      rcases h3 with ⟨h, _⟩ | ⟨_, h⟩
      · exact h
      · omega
    subst hf0
    exact ⟨_, n, 1, h5, by rw [bodyF_snoc h2, hf], .inr ⟨rfl, rfl⟩, hgd⟩
end Go.Proofs.YtphnplpgeoleeaaDoor
