/- Tokens ahead of which, or behind which, white and remarks stand. -/
import Derived.Test.YtnmebingjpnlgaaLexM
namespace Go.Proofs.Ytnmebingjpnlgaa
namespace Lx

def shiftT (q : Nat) (t : Tok) : Tok := ⟨t.kind, t.a + q, t.b + q⟩
theorem lexN_shift (q : Nat) : ∀ (f p : Nat) (l : List UInt8), lexN f (p + q) l = (lexN f p l).map (shiftT q)
  | 0, _, _ => rfl
  | _ + 1, _, [] => rfl
  | f + 1, p, c :: t => by
    rw [lexN, lexN]
    split
    · rw [show p + q + 1 = (p + 1) + q by omega]
      exact lexN_shift q f _ t
    · split
      · cases remN 0 (c :: t) with
        | none =>
          simp only [List.map_cons, List.map_nil, shiftT, List.cons.injEq, and_true, Tok.mk.injEq, true_and]
          omega
        | some n =>
          simp only
          rw [show p + q + n = (p + n) + q by omega]
          exact lexN_shift q f _ _
      · rw [List.map_cons, show p + q + (tokF (c :: t)).2 = (p + (tokF (c :: t)).2) + q by omega, lexN_shift q f _ _]
        rfl
theorem at_shift (l : List UInt8) (k : Nat) : lexAt l k = (lexF (l.drop k)).map (shiftT k) := by
  have := lexN_shift k ((l.drop k).length + 1) 0 (l.drop k)
  rw [Nat.zero_add] at this
  exact this
theorem shift_shift (p q : Nat) (ts : List Tok) : (ts.map (shiftT p)).map (shiftT q) = ts.map (shiftT (p + q)) := by
  rw [List.map_map]
  congr 1
  funext t
  simp [shiftT, Function.comp, Nat.add_assoc]

/-- a line feed, a remark and white. -/
def blk : List UInt8 := [10, 32, 40, 42, 32, 108, 101, 116, 32, 41, 32, 42, 41, 32]
def blks (n : Nat) : List UInt8 := (List.replicate n blk).flatten
theorem blks_len (n : Nat) : (blks n).length = 14 * n := by
  induction n with
  | zero => rfl
  | succ n ih =>
    have e : blks (n + 1) = blk ++ blks n := by simp [blks, List.replicate_succ]
    rw [e, List.length_append, ih]
    simp [blk]
    omega
theorem blks_snoc (n : Nat) : blks (n + 1) = blks n ++ blk := by
  simp [blks, List.replicate_succ']
theorem blk_ahead (y : List UInt8) : lexF (blk ++ y) = (lexF y).map (shiftT 14) := by
  have l0 : (blk ++ y).length = 14 + y.length := by simp [blk]; omega
  rw [lexF_at, at_white _ 0 (by omega) rfl, at_white _ 1 (by omega) rfl, at_some _ 2 (by omega) rfl rfl 11 rfl, at_white _ 13 (by omega) rfl, at_shift]
  rfl
theorem blks_ahead (n : Nat) (y : List UInt8) : lexF (blks n ++ y) = (lexF y).map (shiftT (14 * n)) := by
  induction n with
  | zero =>
    show lexF y = _
    have : shiftT (14 * 0) = id := by funext t; rfl
    rw [this, List.map_id]
  | succ n ih =>
    have e : blks (n + 1) ++ y = blk ++ (blks n ++ y) := by simp [blks, List.replicate_succ]
    rw [e, blk_ahead, ih, shift_shift]
    rfl
theorem blks_none (n : Nat) : lexF (blks n) = [] := by
  have := blks_ahead n []
  rw [List.append_nil] at this
  rw [this]; rfl

/-! ### white behind -/
section
variable (y : List UInt8)
theorem tw_app {p : UInt8 → Bool} (hp : p 32 = false) : ∀ l : List UInt8, (l ++ 32 :: y).takeWhile p = l.takeWhile p
  | [] => by simp [hp]
  | c :: t => by
    rw [List.cons_append, List.takeWhile_cons, List.takeWhile_cons, tw_app hp t]
theorem runN_app {m : List UInt8} (hm : nameCh m 32 = false) (l : List UInt8) : runN m (l ++ 32 :: y) = runN m l := by
  unfold runN
  rw [tw_app y hm l]
theorem tick_app : ∀ l : List UInt8, isTick (l ++ 32 :: y) = isTick l
  | [] => by
    cases y <;> simp [isTick]
  | [a] => by simp [isTick, isSmall]
  | _ :: _ :: _ => rfl
theorem sign_app : ∀ l : List UInt8, l ≠ [] → signN (l ++ 32 :: y) = signN l
  | [], h => absurd rfl h
  | [a], _ => by
    show signN (a :: 32 :: y) = signN [a]
    have : twoSign a 32 = false := by simp [twoSign]
    rw [signN, signN, if_neg (by rw [this]; decide)]
  | _ :: _ :: _, _ => rfl
theorem begins_app : ∀ l : List UInt8, l ≠ [] → begins (l ++ 32 :: y) = begins l
  | [], h => absurd rfl h
  | c :: t, h => by
    have h1 := tick_app y (c :: t)
    have h2 := sign_app y (c :: t) h
    rw [List.cons_append] at h1 h2 ⊢
    simp only [begins, h1, h2]
theorem err_app : ∀ l : List UInt8, errN (l ++ 32 :: y) = errN l
  | [] => by
    show errN (32 :: y) = 0
    rw [errN, if_pos]
    simp [begins, isWhite]
  | c :: t => by
    have h1 := begins_app y (c :: t) (by simp)
    rw [List.cons_append] at h1 ⊢
    rw [errN, errN, h1, err_app t]
theorem opens_app : ∀ l : List UInt8, l ≠ [] → opens (l ++ 32 :: y) = opens l
  | [], h => absurd rfl h
  | [a], _ => by simp [opens]
  | _ :: _ :: _, _ => rfl
theorem tok_app (c : UInt8) (t : List UInt8) : tokF (c :: (t ++ 32 :: y)) = tokF (c :: t) := by
  have e : c :: (t ++ 32 :: y) = (c :: t) ++ 32 :: y := rfl
  have r1 : runN [39] (c :: (t ++ 32 :: y)) = runN [39] (c :: t) := runN_app y (m := [39]) (by decide) (c :: t)
  have r2 : runN [] (t ++ 32 :: y) = runN [] t := runN_app y (m := []) (by decide) t
  have r3 : digN (t ++ 32 :: y) = digN t := by
    unfold digN
    rw [tw_app y (by decide) t]
  have r4 : isTick (c :: (t ++ 32 :: y)) = isTick (c :: t) := tick_app y (c :: t)
  have r5 : signN (c :: (t ++ 32 :: y)) = signN (c :: t) := sign_app y (c :: t) (by simp)
  have r6 := err_app y t
  have r7 : (c :: (t ++ 32 :: y)).take (runN [39] (c :: t)) = (c :: t).take (runN [39] (c :: t)) := by
    rw [e]
    exact List.take_append_of_le_length (tw_le _)
  simp only [tokF, r1, r2, r3, r4, r5, r6, r7]
end
theorem rem_app (x : List UInt8) : ∀ (n d : Nat) (l : List UInt8) (m : Nat), l.length ≤ n → remN d l = some m → remN d (l ++ x) = some m
  | 0, d, l, m, hl, h => by
    have : l = [] := List.eq_nil_of_length_eq_zero (by omega)
    subst this
    simp [remN] at h
  | n + 1, d, [], m, _, h => by simp [remN] at h
  | n + 1, d, [_], m, _, h => by simp [remN] at h
  | n + 1, d, a :: b :: t, m, hl, h => by
    simp only [List.length_cons] at hl
    rw [List.cons_append, List.cons_append, remN]
    rw [remN] at h
    split at h
    · rename_i h1
      rw [if_pos h1]
      simp only [Option.map_eq_some_iff] at h ⊢
      obtain ⟨z, hz, rfl⟩ := h
      exact ⟨z, rem_app x n _ t z (by omega) hz, rfl⟩
    · rename_i h1
      rw [if_neg h1]
      split at h
      · rename_i h2
        rw [if_pos h2]
        split at h
        · rename_i h3
          rw [if_pos h3]; exact h
        · rename_i h3
          rw [if_neg h3]
          simp only [Option.map_eq_some_iff] at h ⊢
          obtain ⟨z, hz, rfl⟩ := h
          exact ⟨z, rem_app x n _ t z (by omega) hz, rfl⟩
      · rename_i h2
        rw [if_neg h2]
        simp only [Option.map_eq_some_iff] at h ⊢
        obtain ⟨z, hz, rfl⟩ := h
        exact ⟨z, rem_app x n _ (b :: t) z (by simp; omega) hz, rfl⟩
theorem last_tail {t u : Tok} {ts : List Tok} (h : ∀ v, (t :: ts).getLast? = some v → v.kind ≠ 7) (hu : ts.getLast? = some u) : u.kind ≠ 7 := by
  refine h u ?_
  cases ts with
  | nil => simp at hu
  | cons a b => rw [List.getLast?_cons_cons]; exact hu
theorem behind (l y : List UInt8) : ∀ (n k : Nat), l.length - k ≤ n → k ≤ l.length → (∀ v, (lexAt l k).getLast? = some v → v.kind ≠ 7) → lexAt (l ++ 32 :: y) k = lexAt l k ++ lexAt (l ++ 32 :: y) l.length := by
  intro n
  induction n with
  | zero =>
    intro k hn hk _
    obtain rfl : k = l.length := by omega
    rw [at_end l _ (Nat.le_refl _)]; rfl
  | succ n ih =>
    intro k hn hk hv
    rcases Nat.lt_or_ge k l.length with hlt | hge
    · have hdl : (l.drop k).length = l.length - k := List.length_drop
      have hd : (l ++ 32 :: y).drop k = l.drop k ++ 32 :: y := by rw [List.drop_append_of_le_length hk]
      have hne : l.drop k ≠ [] := fun x => by rw [x] at hdl; simp at hdl; omega
      have hl : k < (l ++ 32 :: y).length := by simp; omega
      have hg : (l ++ 32 :: y)[k] = l[k] := List.getElem_append_left hlt
      have ho' := opens_app y (l.drop k) hne
      cases hw : isWhite l[k]
      · have hw' : isWhite (l ++ 32 :: y)[k] = false := by rw [hg]; exact hw
        cases ho : opens (l.drop k)
        · have hb := tok_bounds l[k] (l.drop (k + 1))
          rw [← drop_cons l k hlt, hdl] at hb
          have ht : tokF ((l ++ 32 :: y).drop k) = tokF (l.drop k) := by
            rw [hd, drop_cons l k hlt]
            exact tok_app y _ _
          rw [at_tok l k hlt hw ho] at hv ⊢
          rw [at_tok _ k hl hw' (by rw [hd, ho', ho]), ht, List.cons_append]
          congr 1
          exact ih _ (by omega) (by omega) (fun u hu => last_tail hv hu)
        · cases hr : remN 0 (l.drop k) with
          | none =>
            rw [at_none l k hlt hw ho hr] at hv
            exact absurd rfl (hv _ rfl)
          | some m =>
            have hb := rem_bounds _ _ _ (Nat.le_refl _) m hr
            rw [hdl] at hb
            rw [at_some l k hlt hw ho m hr] at hv ⊢
            rw [at_some _ k hl hw' (by rw [hd, ho', ho]) m (by rw [hd]; exact rem_app _ _ _ _ _ (Nat.le_refl _) hr)]
            exact ih _ (by omega) (by omega) hv
      · rw [at_white l k hlt hw] at hv ⊢
        rw [at_white _ k hl (by rw [hg]; exact hw)]
        exact ih _ (by omega) (by omega) hv
    · obtain rfl : k = l.length := by omega
      rw [at_end l _ (Nat.le_refl _)]; rfl
theorem blks_behind (l : List UInt8) (n : Nat) (hv : ∀ v, (lexF l).getLast? = some v → v.kind ≠ 7) : lexF (l ++ 32 :: blks n) = lexF l := by
  rw [lexF_at, behind l _ _ 0 (Nat.le_refl _) (Nat.zero_le _) hv, ← lexF_at]
  have hl : l.length < (l ++ 32 :: blks n).length := by simp
  have hg : (l ++ 32 :: blks n)[l.length] = 32 := by simp
  have hd : (l ++ 32 :: blks n).drop (l.length + 1) = blks n := by
    rw [← List.drop_drop, List.drop_left]; rfl
  rw [at_white _ _ hl (by rw [hg]; rfl), at_shift, hd, blks_none, List.map_nil, List.append_nil]
end Lx
end Go.Proofs.Ytnmebingjpnlgaa
