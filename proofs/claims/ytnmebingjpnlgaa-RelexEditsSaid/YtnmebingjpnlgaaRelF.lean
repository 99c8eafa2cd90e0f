/- What an edit leaves of a text's tokens: the tokens ahead of it, and those behind white that stands behind it. -/
import Derived.Test.YtnmebingjpnlgaaLexN
import Derived.Test.YtnmebingjpnlgaaLexH
namespace Go.Proofs.Ytnmebingjpnlgaa
namespace Lx
set_option linter.unusedVariables false

/-! ### two texts that begin alike -/
theorem tw_pre {p : UInt8 → Bool} : ∀ (x y y' : List UInt8), ((x ++ y).takeWhile p).length < x.length → (x ++ y').takeWhile p = (x ++ y).takeWhile p
  | [], _, _, h => by simp at h
  | c :: x, y, y', h => by
    rw [List.cons_append, List.takeWhile_cons] at h
    rw [List.cons_append, List.cons_append, List.takeWhile_cons, List.takeWhile_cons]
    split
    · rename_i hc
      rw [if_pos hc] at h
      simp only [List.length_cons] at h
      rw [tw_pre x y y' (by omega)]
    · rfl
theorem run_pre {m x y : List UInt8} (y' : List UInt8) (h : runN m (x ++ y) < x.length) : runN m (x ++ y') = runN m (x ++ y) := by
  unfold runN at h ⊢
  rw [tw_pre x y y' h]
theorem dig_pre {x y : List UInt8} (y' : List UInt8) (h : digN (x ++ y) < x.length) : digN (x ++ y') = digN (x ++ y) := by
  unfold digN at h ⊢
  rw [tw_pre x y y' h]
theorem tick_pre : ∀ {x : List UInt8} (y y' : List UInt8), 2 ≤ x.length → isTick (x ++ y') = isTick (x ++ y)
  | [], _, _, h => by simp at h
  | [_], _, _, h => by simp at h
  | _ :: _ :: _, _, _, _ => rfl
theorem sign_pre : ∀ {x : List UInt8} (y y' : List UInt8), 2 ≤ x.length → signN (x ++ y') = signN (x ++ y)
  | [], _, _, h => by simp at h
  | [_], _, _, h => by simp at h
  | _ :: _ :: _, _, _, _ => rfl
theorem opens_pre : ∀ {x : List UInt8} (y y' : List UInt8), 2 ≤ x.length → opens (x ++ y') = opens (x ++ y)
  | [], _, _, h => by simp at h
  | [_], _, _, h => by simp at h
  | _ :: _ :: _, _, _, _ => rfl
theorem begins_pre : ∀ {x : List UInt8} (y y' : List UInt8), 2 ≤ x.length → begins (x ++ y') = begins (x ++ y)
  | [], _, _, h => by simp at h
  | c :: x, y, y', h => by
    have h1 := tick_pre (x := c :: x) y y' h
    have h2 := sign_pre (x := c :: x) y y' h
    rw [List.cons_append, List.cons_append] at h1 h2 ⊢
    simp only [begins, h1, h2]
theorem err_pre : ∀ (x y y' : List UInt8), errN (x ++ y) + 2 ≤ x.length → errN (x ++ y') = errN (x ++ y)
  | [], _, _, h => by simp at h
  | c :: x, y, y', h => by
    have h1 := begins_pre (x := c :: x) y y' (by omega)
    rw [List.cons_append] at h
    rw [List.cons_append, List.cons_append] at h1 ⊢
    rw [errN, errN, h1]
    rw [errN] at h
    split
    · rfl
    · rename_i hb
      rw [if_neg hb] at h
      simp only [List.length_cons] at h
      rw [err_pre x y y' (by omega)]
theorem tok_pre (c : UInt8) (x y y' : List UInt8) (h : (tokF (c :: (x ++ y))).2 + 2 ≤ x.length + 1) : tokF (c :: (x ++ y')) = tokF (c :: (x ++ y)) := by
  have hb := (tok_bounds c (x ++ y)).1
  have r4 : isTick (c :: (x ++ y')) = isTick (c :: (x ++ y)) := tick_pre (x := c :: x) y y' (by simp; omega)
  have r5 : signN (c :: (x ++ y')) = signN (c :: (x ++ y)) := sign_pre (x := c :: x) y y' (by simp; omega)
  have r1 : runN [39] (c :: (x ++ y)) + 2 ≤ x.length + 1 → runN [39] (c :: (x ++ y')) = runN [39] (c :: (x ++ y)) := fun h => run_pre (x := c :: x) y' (by simp only [List.cons_append, List.length_cons]; omega)
  simp only [tokF] at h ⊢
  split
  · rename_i h1
    simp only [h1, if_true] at h
    rw [r1 h]
    congr 2
    have e1 := List.take_append_of_le_length (l₁ := c :: x) (l₂ := y) (i := runN [39] (c :: (x ++ y))) (by simp only [List.length_cons]; omega)
    have e2 := List.take_append_of_le_length (l₁ := c :: x) (l₂ := y') (i := runN [39] (c :: (x ++ y))) (by simp only [List.length_cons]; omega)
    rw [List.cons_append] at e1 e2
    rw [e1, e2]
  · rename_i h1
    rw [if_neg h1] at h
    split
    · rename_i h2
      rw [if_pos h2] at h
      rw [r1 h]
    · rename_i h2
      rw [if_neg h2] at h
      split
      · rename_i h3
        rw [if_pos h3] at h
        rw [dig_pre (y := y) y' (by simp only at h; omega)]
      · rename_i h3
        rw [if_neg h3] at h
        rw [r4]
        split
        · rename_i h4
          rw [if_pos h4] at h
          rw [run_pre (y := y) y' (by simp only at h; omega)]
        · rename_i h4
          rw [if_neg h4] at h
          rw [r5]
          split
          · rfl
          · rename_i h5
            rw [if_neg h5] at h
            rw [err_pre x y y' (by simp only at h; omega)]
theorem rem_pre (y y' : List UInt8) : ∀ (n d : Nat) (x : List UInt8) (m : Nat), x.length ≤ n → remN d (x ++ y) = some m → m ≤ x.length → remN d (x ++ y') = some m
  | n, d, [], m, _, h, hm => by
    have := (rem_bounds _ d _ (Nat.le_refl _) m h).1
    simp at hm; omega
  | n, d, [_], m, _, h, hm => by
    have := (rem_bounds _ d _ (Nat.le_refl _) m h).1
    simp at hm; omega
  | 0, d, _ :: _ :: _, m, hl, h, _ => by simp at hl
  | n + 1, d, a :: b :: t, m, hl, h, hm => by
    simp only [List.length_cons] at hl hm
    rw [List.cons_append, List.cons_append, remN] at h ⊢
    split at h
    · rename_i h1
      rw [if_pos h1]
      simp only [Option.map_eq_some_iff] at h ⊢
      obtain ⟨z, hz, rfl⟩ := h
      exact ⟨z, rem_pre y y' n _ t z (by omega) hz (by omega), rfl⟩
    · rename_i h1
      rw [if_neg h1]
      split at h
      · rename_i h2
        rw [if_pos h2]
        split at h
        · rename_i h3
          rw [if_pos h3]; exact h
        · rename_i h3
          rw [if_neg h3]
          simp only [Option.map_eq_some_iff] at h ⊢
          obtain ⟨z, hz, rfl⟩ := h
          exact ⟨z, rem_pre y y' n _ t z (by omega) hz (by omega), rfl⟩
      · rename_i h2
        rw [if_neg h2]
        simp only [Option.map_eq_some_iff] at h ⊢
        obtain ⟨z, hz, rfl⟩ := h
        exact ⟨z, rem_pre y y' n d (b :: t) z (by simp; omega) hz (by simp; omega), rfl⟩

theorem at_chain (l : List UInt8) (k : Nat) (h : k ≤ l.length) : Chain l k (lexAt l k) :=
  chain_at l _ k k (Nat.le_refl _) (Nat.le_refl _) h (fun x => by rw [seg_self, List.nil_append])
theorem drop_parts (l : List UInt8) {q m : Nat} (h : q ≤ m) (hm : m ≤ l.length) : l.drop q = (l.take m).drop q ++ l.drop m := by
  conv => lhs; rw [← List.take_append_drop m l]
  rw [List.drop_append_of_le_length (by rw [List.length_take]; omega)]
/-- the tokens that end two bytes ahead of where two texts part are the same. -/
theorem front_same (l l' : List UInt8) (m : Nat) (hm : m ≤ l.length) (hm' : m ≤ l'.length) (e : l.take m = l'.take m) :
    ∀ (N q k : Nat), m - q ≤ N → q ≤ m → k ≤ (lexAt l q).length → (∀ t ∈ (lexAt l q).take k, t.b + 2 ≤ m) →
      ∃ r, lexAt l' q = (lexAt l q).take k ++ lexAt l' r ∧ (k = 0 → r = q) ∧ (∀ t, 0 < k → (lexAt l q)[k - 1]? = some t → r = t.b)
  | N, q, 0, _, _, _, _ => ⟨q, by simp, fun _ => rfl, fun t h => absurd h (by omega)⟩
  | N, q, k + 1, hN, hq, hk, ht => by
    have hc := at_chain l q (by omega)
    obtain ⟨t0, ts, e0⟩ : ∃ t0 ts, lexAt l q = t0 :: ts := by
      match h : lexAt l q with
      | [] => rw [h] at hk; simp at hk
      | t0 :: ts => exact ⟨t0, ts, rfl⟩
    have hb : t0.b + 2 ≤ m := ht t0 (by rw [e0]; simp)
    rw [e0] at hc
    obtain ⟨hc1, hc2, hc3, _, _⟩ := hc
    have hql : q < l.length := by omega
    have hql' : q < l'.length := by omega
    have d1 := drop_parts l hq hm
    have d2 := drop_parts l' hq hm'
    rw [← e] at d2
    obtain ⟨x, hx⟩ : ∃ x, x = (l.take m).drop q := ⟨_, rfl⟩
    have hxl : x.length = m - q := by rw [hx, List.length_drop, List.length_take]; omega
    rw [← hx] at d1 d2
    obtain ⟨c, x1, rfl⟩ : ∃ c x1, x = c :: x1 := by
      match x, hxl with
      | [], h => simp at h; omega
      | c :: x1, _ => exact ⟨c, x1, rfl⟩
    rw [List.cons_append] at d1 d2
    have g1 : l[q] = c := by have := drop_cons l q hql; rw [d1] at this; exact (List.cons.inj this).1.symm
    have g2 : l'[q] = c := by have := drop_cons l' q hql'; rw [d2] at this; exact (List.cons.inj this).1.symm
    simp only [List.length_cons] at hxl
    match N, hN with
    | 0, hN => omega
    | N + 1, hN =>
      cases hw : isWhite c
      · have ho : opens (l'.drop q) = opens (l.drop q) := by
          rw [d1, d2, ← List.cons_append, ← List.cons_append]
          exact opens_pre _ _ (by simp; omega)
        cases hop : opens (l.drop q)
        · have a1 := at_tok l q hql (by rw [g1]; exact hw) hop
          have a2 := at_tok l' q hql' (by rw [g2]; exact hw) (by rw [ho]; exact hop)
          obtain ⟨kd, n, et⟩ : ∃ kd n, tokF (l.drop q) = (kd, n) := ⟨_, _, rfl⟩
          rw [et] at a1
          have hb0 : t0 = ⟨kd, q, q + n⟩ := by rw [e0] at a1; exact (List.cons.inj a1).1
          have hn1 : 1 ≤ n := by
            have := (tok_bounds c (x1 ++ l.drop m)).1
            rw [← d1, et] at this
            exact this
          have et' : tokF (l'.drop q) = (kd, n) := by
            rw [d2, tok_pre c x1 (l.drop m) (l'.drop m) (by rw [← d1, et]; rw [hb0] at hb; simp only at hb ⊢; omega), ← d1, et]
          rw [et'] at a2
          have hb' : q + n + 2 ≤ m := by rw [hb0] at hb; exact hb
          have ih := front_same l l' m hm hm' e N (q + n) k (by omega) (by omega) (by rw [a1] at hk; simpa using hk) (fun t h => ht t (by rw [a1, List.take_succ_cons]; exact List.mem_cons_of_mem _ h))
          obtain ⟨r, h1, h2, h3⟩ := ih
          refine ⟨r, ?_, fun h => absurd h (by omega), fun t _ h => ?_⟩
          · rw [a2, a1, List.take_succ_cons, List.cons_append, ← h1]
          · rw [a1] at h
            rcases Nat.eq_zero_or_pos k with rfl | hk0
            · simp at h
              rw [h2 rfl, ← h]
            · refine h3 t hk0 ?_
              obtain ⟨k', rfl⟩ : ∃ k', k = k' + 1 := ⟨k - 1, by omega⟩
              simpa using h
        · cases hr : remN 0 (l.drop q) with
          | none =>
            have a1 := at_none l q hql (by rw [g1]; exact hw) hop hr
            rw [e0] at a1
            have := (List.cons.inj a1).1
            rw [this] at hb
            simp only at hb
            omega
          | some n =>
            have a1 := at_some l q hql (by rw [g1]; exact hw) hop n hr
            have hn := rem_bounds _ _ _ (Nat.le_refl _) n hr
            rw [List.length_drop] at hn
            have hch := at_chain l (q + n) (by omega)
            rw [← a1, e0] at hch
            have hqn : q + n ≤ t0.a := hch.1
            have hr' : remN 0 (l'.drop q) = some n := by
              rw [d2, ← List.cons_append]
              rw [d1, ← List.cons_append] at hr
              exact rem_pre _ _ _ 0 _ n (Nat.le_refl _) hr (by simp; omega)
            have a2 := at_some l' q hql' (by rw [g2]; exact hw) (by rw [ho]; exact hop) n hr'
            have ih := front_same l l' m hm hm' e N (q + n) (k + 1) (by omega) (by omega) (by rw [← a1]; exact hk) (by rw [← a1]; exact ht)
            rw [← a1, ← a2] at ih
            obtain ⟨r, h1, h2, h3⟩ := ih
            exact ⟨r, h1, fun h => absurd h (by omega), h3⟩
      · have a1 := at_white l q hql (by rw [g1]; exact hw)
        have a2 := at_white l' q hql' (by rw [g2]; exact hw)
        have ih := front_same l l' m hm hm' e N (q + 1) (k + 1) (by omega) (by omega) (by rw [← a1]; exact hk) (by rw [← a1]; exact ht)
        rw [← a1, ← a2] at ih
        obtain ⟨r, h1, h2, h3⟩ := ih
        exact ⟨r, h1, fun h => absurd h (by omega), h3⟩
end Lx
end Go.Proofs.Ytnmebingjpnlgaa
