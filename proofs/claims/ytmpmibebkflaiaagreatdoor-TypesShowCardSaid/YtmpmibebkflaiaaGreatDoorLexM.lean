/- A token is as long as it can be. -/
import Derived.Test.YtmpmibebkflaiaaGreatDoorLexE
namespace Go.Proofs.YtmpmibebkflaiaaGreatDoor
namespace Lx

theorem takeWhile_take {p : UInt8 → Bool} : ∀ (l : List UInt8) (m : Nat), (l.takeWhile p).length ≤ m → (l.take m).takeWhile p = l.takeWhile p
  | [], m, _ => by simp
  | c :: t, 0, h => by
    have h0 : (c :: t).takeWhile p = [] := List.eq_nil_of_length_eq_zero (by omega)
    rw [h0, List.take_zero]; rfl
  | c :: t, m + 1, h => by
    rw [List.take_succ_cons, List.takeWhile_cons, List.takeWhile_cons]
    rw [List.takeWhile_cons] at h
    split
    · rename_i hc
      rw [if_pos hc] at h
      rw [takeWhile_take t m (by simp at h; omega)]
    · rfl
theorem runN_take {s l : List UInt8} {m : Nat} (h : runN s l ≤ m) : runN s (l.take m) = runN s l := by
  unfold runN at *
  rw [takeWhile_take l m h]
theorem tick_take {l : List UInt8} {m : Nat} (h : 2 ≤ m) : isTick (l.take m) = isTick l := by
  match l, m, h with
  | [], _, _ => simp
  | [a], m + 1, _ => simp
  | a :: b :: t, m + 2, _ => rfl
theorem tick_take_no {l : List UInt8} {m : Nat} (h : isTick l = false) : isTick (l.take m) = false := by
  match l, m, h with
  | [], _, _ => simp [isTick]
  | [a], 0, _ => rfl
  | [a], m + 1, _ => simp [isTick]
  | a :: b :: t, 0, _ => rfl
  | a :: b :: t, 1, _ => rfl
  | a :: b :: t, m + 2, h => exact h
theorem sign_take {l : List UInt8} {m : Nat} (h0 : 0 < signN l) (h : signN l ≤ m) : signN (l.take m) = signN l := by
  match l, m, h0, h with
  | [], _, h0, _ => simp [signN] at h0
  | _ :: _, 0, h0, h => omega
  | [a], m + 1, _, _ => simp
  | a :: b :: t, 1, h0, h =>
    rw [signN] at h0 h
    split at h
    · omega
    · rename_i h2
      rw [if_neg h2] at h0
      show signN [a] = signN (a :: b :: t)
      rw [signN, signN, if_neg h2]
  | a :: b :: t, m + 2, _, _ => rfl
/-- the token at a list's beginning is also that of each of its fronts that hold it. -/
theorem tok_take {c : UInt8} {t : List UInt8} {m : Nat} (hk : (tokF (c :: t)).1 ≠ 7) (hm : (tokF (c :: t)).2 ≤ m + 1) : tokF (c :: t.take m) = tokF (c :: t) := by
  have e : c :: t.take m = (c :: t).take (m + 1) := by simp
  simp only [tokF] at hk hm ⊢
  split at hm
  · rename_i h1
    rw [if_pos h1, if_pos h1]
    rw [e, runN_take hm, List.take_take, Nat.min_eq_left hm]
  · rename_i h1
    rw [if_neg h1] at hk ⊢
    split at hm
    · rename_i h2
      rw [if_pos h2, if_neg h1, if_pos h2, e, runN_take hm]
    · rename_i h2
      rw [if_neg h2] at hk ⊢
      split at hm
      · rename_i h3
        rw [if_pos h3, if_neg h1, if_neg h2, if_pos h3]
        have hm' : digN t ≤ m := by simp only at hm; omega
        have : digN (t.take m) = digN t := by
          unfold digN at *
          rw [takeWhile_take t m hm']
        rw [this]
      · rename_i h3
        rw [if_neg h3] at hk ⊢
        split at hm
        · rename_i h4
          have hm' : runN [] t ≤ m := by simp only at hm; omega
          have h1m : 1 ≤ m := by
            match t, h4, hm' with
            | b :: t, h4, hm' =>
              have : 1 ≤ runN [] (b :: t) := runN_pos (by simp [isTick] at h4; simp [nameCh, isLetter, h4.2])
              omega
          rw [if_pos h4, if_neg h1, if_neg h2, if_neg h3, e, tick_take (by omega), if_pos h4]
          have hr : runN [] (t.take m) = runN [] t := runN_take hm'
          rw [hr]
        · rename_i h4
          rw [if_neg h4] at hk ⊢
          have h4' : isTick (c :: t.take m) = false := by rw [e]; exact tick_take_no (by simpa using h4)
          split at hm
          · rename_i h5
            rw [if_pos h5, if_neg h1, if_neg h2, if_neg h3, if_neg (by rw [h4']; decide)]
            have hs : signN (c :: t.take m) = signN (c :: t) := by rw [e]; exact sign_take h5 hm
            rw [hs, if_pos h5]
          · rename_i h5
            rw [if_neg h5] at hk
            exact absurd rfl hk
/-- each token but an error is the one that stands at its place. -/
theorem toks_at (l : List UInt8) : ∀ (n k : Nat), l.length - k ≤ n → k ≤ l.length → ∀ t ∈ lexAt l k, t.a < l.length ∧ t.a < t.b ∧ t.b ≤ l.length ∧ (t.kind ≠ 7 → tokF (l.drop t.a) = (t.kind, t.b - t.a)) := by
  intro n
  induction n with
  | zero =>
    intro k hn hk t ht
    rw [at_end l _ (by omega)] at ht
    cases ht
  | succ n ih =>
    intro k hn hk t ht
    rcases Nat.lt_or_ge k l.length with hlt | hge
    · have hdl : (l.drop k).length = l.length - k := List.length_drop
      cases hw : isWhite l[k]
      · cases ho : opens (l.drop k)
        · rw [at_tok l k hlt hw ho] at ht
          have hb := tok_bounds l[k] (l.drop (k + 1))
          rw [← drop_cons l k hlt, hdl] at hb
          rcases List.mem_cons.1 ht with rfl | ht
          · refine ⟨hlt, by show k < k + _; omega, by show k + _ ≤ _; omega, fun _ => ?_⟩
            show tokF (l.drop k) = ((tokF (l.drop k)).1, k + (tokF (l.drop k)).2 - k)
            rw [Nat.add_sub_cancel_left]
          · exact ih _ (by omega) (by omega) t ht
        · cases hr : remN 0 (l.drop k) with
          | none =>
            rw [at_none l k hlt hw ho hr] at ht
            rw [List.mem_singleton] at ht
            subst ht
            exact ⟨hlt, hlt, Nat.le_refl _, fun h => absurd rfl h⟩
          | some m =>
            rw [at_some l k hlt hw ho m hr] at ht
            have hb := rem_bounds _ _ _ (Nat.le_refl _) m hr
            rw [hdl] at hb
            exact ih _ (by omega) (by omega) t ht
      · rw [at_white l k hlt hw] at ht
        exact ih _ (by omega) (by omega) t ht
    · rw [at_end l _ (by omega)] at ht
      cases ht
theorem lex_at (l : List UInt8) {t : Tok} (ht : t ∈ lexF l) : t.a < l.length ∧ t.a < t.b ∧ t.b ≤ l.length ∧ (t.kind ≠ 7 → tokF (l.drop t.a) = (t.kind, t.b - t.a)) :=
  toks_at l _ 0 (Nat.le_refl _) (Nat.zero_le _) t ht
/-- what Kind is told of the bytes from a token's beginning up to byte j. -/
theorem tok_front (l : List UInt8) {t : Tok} (ht : t ∈ lexF l) (hk : t.kind ≠ 7) {j : Nat} (hj : t.b ≤ j) : tokF ((l.drop t.a).take (j - t.a)) = (t.kind, t.b - t.a) := by
  obtain ⟨h1, h2, h3, h4⟩ := lex_at l ht
  have e := h4 hk
  have hc := drop_cons l t.a h1
  rw [hc] at e ⊢
  obtain ⟨m, hm⟩ : ∃ m, j - t.a = m + 1 := ⟨j - t.a - 1, by omega⟩
  rw [hm, List.take_succ_cons, tok_take (by rw [e]; exact hk) (by rw [e]; show t.b - t.a ≤ m + 1; omega)]
  exact e
end Lx
end Go.Proofs.YtmpmibebkflaiaaGreatDoor
