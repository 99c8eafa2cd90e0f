/- Words with one blank behind each are read again as they were. -/
import Derived.Test.YtfeokaloedfejaaLexN
namespace Go.Proofs.Ytfeokaloedfejaa
namespace Lx

/-- a token's bytes. -/
def wordT (l : List UInt8) (t : Tok) : List UInt8 := (l.drop t.a).take (t.b - t.a)
theorem toks_plain (l : List UInt8) : ∀ (n k : Nat), l.length - k ≤ n → k ≤ l.length → ∀ t ∈ lexAt l k, t.kind ≠ 7 → ∃ h : t.a < l.length, isWhite l[t.a] = false ∧ opens (l.drop t.a) = false := by
  intro n
  induction n with
  | zero =>
    intro k hn hk t ht
    rw [at_end l _ (by omega)] at ht
    cases ht
  | succ n ih =>
    intro k hn hk t ht h7
    rcases Nat.lt_or_ge k l.length with hlt | hge
    · have hdl : (l.drop k).length = l.length - k := List.length_drop
      cases hw : isWhite l[k]
      · cases ho : opens (l.drop k)
        · rw [at_tok l k hlt hw ho] at ht
          have hb := tok_bounds l[k] (l.drop (k + 1))
          rw [← drop_cons l k hlt, hdl] at hb
          rcases List.mem_cons.1 ht with rfl | ht
          · exact ⟨hlt, hw, ho⟩
          · exact ih _ (by omega) (by omega) t ht h7
        · cases hr : remN 0 (l.drop k) with
          | none =>
            rw [at_none l k hlt hw ho hr] at ht
            rw [List.mem_singleton] at ht
            subst ht
            exact absurd rfl h7
          | some m =>
            rw [at_some l k hlt hw ho m hr] at ht
            have hb := rem_bounds _ _ _ (Nat.le_refl _) m hr
            rw [hdl] at hb
            exact ih _ (by omega) (by omega) t ht h7
      · rw [at_white l k hlt hw] at ht
        exact ih _ (by omega) (by omega) t ht h7
    · rw [at_end l _ (by omega)] at ht
      cases ht
/-- a word by itself. -/
def OkW (k : Nat) (w : List UInt8) : Prop := ∃ c t, w = c :: t ∧ isWhite c = false ∧ opens w = false ∧ tokF w = (k, w.length)
theorem opens_take {l : List UInt8} {m : Nat} (h : opens l = false) : opens (l.take m) = false := by
  match l, m, h with
  | [], _, _ => simp [opens]
  | [a], 0, _ => rfl
  | [a], m + 1, _ => simp [opens]
  | a :: b :: t, 0, _ => rfl
  | a :: b :: t, 1, _ => rfl
  | a :: b :: t, m + 2, h => exact h
theorem word_ok (l : List UInt8) {t : Tok} (ht : t ∈ lexF l) (h7 : t.kind ≠ 7) : OkW t.kind (wordT l t) ∧ (wordT l t).length = t.b - t.a := by
  obtain ⟨h1, h2, h3, h4⟩ := lex_at l ht
  obtain ⟨_, hw, ho⟩ := toks_plain l _ 0 (Nat.le_refl _) (Nat.zero_le _) t ht h7
  have hl : (wordT l t).length = t.b - t.a := by unfold wordT; rw [List.length_take, List.length_drop]; omega
  have hf := tok_front l ht h7 (Nat.le_refl _)
  have hc := drop_cons l t.a h1
  obtain ⟨m, hm⟩ : ∃ m, t.b - t.a = m + 1 := ⟨t.b - t.a - 1, by omega⟩
  refine ⟨⟨l[t.a], (l.drop (t.a + 1)).take m, ?_, hw, opens_take ho, ?_⟩, hl⟩
  · unfold wordT
    rw [hm, hc, List.take_succ_cons]
  · rw [hl]; exact hf

def joinB : List (Nat × List UInt8) → List UInt8
  | [] => []
  | (_, w) :: r => w ++ 32 :: joinB r
def againT : Nat → List (Nat × List UInt8) → List Tok
  | _, [] => []
  | p, (k, w) :: r => ⟨k, p, p + w.length⟩ :: againT (p + w.length + 1) r
theorem again_shift (q : Nat) : ∀ (r : List (Nat × List UInt8)) (p : Nat), (againT p r).map (shiftT q) = againT (p + q) r
  | [], _ => rfl
  | (k, w) :: r, p => by
    rw [againT, againT, List.map_cons, again_shift q r]
    simp only [shiftT, List.cons.injEq, Tok.mk.injEq, true_and]
    refine ⟨by omega, ?_⟩
    congr 1
    omega
theorem join_lex : ∀ (r : List (Nat × List UInt8)), (∀ x ∈ r, OkW x.1 x.2) → lexF (joinB r) = againT 0 r
  | [], _ => rfl
  | (k, w) :: r, h => by
    obtain ⟨c, t, hw, h1, h2, h3⟩ := h (k, w) (by simp)
    have ih := join_lex r (fun x hx => h x (by simp [hx]))
    simp only at hw h2 h3
    rw [joinB, againT, lexF_at]
    have hl : (w ++ 32 :: joinB r).length = w.length + 1 + (joinB r).length := by simp; omega
    have hg : (w ++ 32 :: joinB r)[0]'(by omega) = c := by simp [hw]
    have hd : (w ++ 32 :: joinB r).drop 0 = w ++ 32 :: joinB r := rfl
    have ht : tokF (w ++ 32 :: joinB r) = (k, w.length) := by
      rw [← h3, hw, List.cons_append]
      exact tok_app _ c t
    have ho : opens (w ++ 32 :: joinB r) = false := by
      rw [opens_app _ w (by rw [hw]; simp), h2]
    rw [at_tok _ 0 (by omega) (by rw [hg]; exact h1) (by rw [hd]; exact ho), hd, ht, Nat.zero_add]
    have hg2 : (w ++ 32 :: joinB r)[w.length]'(by omega) = 32 := by simp
    have hd2 : (w ++ 32 :: joinB r).drop (w.length + 1) = joinB r := by
      rw [← List.drop_drop, List.drop_left]; rfl
    rw [at_white _ w.length (by omega) (by rw [hg2]; rfl), at_shift, hd2, ih, again_shift, Nat.zero_add]
theorem join_snoc (r : List (Nat × List UInt8)) (k : Nat) (w : List UInt8) : joinB (r ++ [(k, w)]) = joinB r ++ (w ++ [32]) := by
  induction r with
  | nil => simp [joinB]
  | cons x r ih =>
    obtain ⟨a, b⟩ := x
    rw [List.cons_append, joinB, joinB, ih]
    simp
theorem again_len : ∀ (r : List (Nat × List UInt8)) (p : Nat), (againT p r).length = r.length
  | [], _ => rfl
  | _ :: r, p => by rw [againT, List.length_cons, again_len r, List.length_cons]
/-- the i-th token that is read again, and its bytes. -/
theorem again_get : ∀ (r : List (Nat × List UInt8)) (p : Nat) (pre : List UInt8) (i : Nat) (h : i < r.length), pre.length = p →
    ∃ a b, (againT p r)[i]? = some ⟨r[i].1, a, b⟩ ∧ a ≤ b ∧ b ≤ (pre ++ joinB r).length ∧ ((pre ++ joinB r).drop a).take (b - a) = r[i].2
  | (k, w) :: r, p, pre, 0, _, hp => by
    refine ⟨p, p + w.length, rfl, by omega, ?_, ?_⟩
    · simp [joinB]; omega
    · rw [joinB, ← hp, List.drop_left, Nat.add_sub_cancel_left, List.take_left]; rfl
  | (k, w) :: r, p, pre, i + 1, h, hp => by
    have e : pre ++ joinB ((k, w) :: r) = (pre ++ (w ++ [32])) ++ joinB r := by simp [joinB]
    obtain ⟨a, b, h1, h2, h3, h4⟩ := again_get r (p + w.length + 1) (pre ++ (w ++ [32])) i (by simpa using h) (by simp; omega)
    rw [e]
    exact ⟨a, b, h1, h2, h3, h4⟩
/-- kinds and words of tokens. -/
def pairs (l : List UInt8) (ts : List Tok) : List (Nat × List UInt8) := ts.map fun t => (t.kind, wordT l t)
theorem pairs_ok (l : List UInt8) (h : ∀ t ∈ lexF l, t.kind ≠ 7) : ∀ x ∈ pairs l (lexF l), OkW x.1 x.2 := by
  intro x hx
  simp only [pairs, List.mem_map] at hx
  obtain ⟨t, ht, rfl⟩ := hx
  exact (word_ok l ht (h t ht)).1
end Lx
end Go.Proofs.Ytfeokaloedfejaa
