/- What stands between the tokens: white and remarks. -/
import Derived.Test.YtmpmibebkflaiaaGreatDoorLexE
namespace Go.Proofs.YtmpmibebkflaiaaGreatDoor
namespace Lx

/-- are these bytes white and whole remarks, so many remarks being open ahead of them? -/
def gapB : Nat → List UInt8 → Bool
  | d, a :: b :: t =>
    if a.toNat = 40 ∧ b.toNat = 42 then gapB (d + 1) t
    else if 0 < d ∧ a.toNat = 42 ∧ b.toNat = 41 then gapB (d - 1) t
    else if d = 0 ∧ isWhite a = false then false
    else gapB d (b :: t)
  | d, [a] => decide (d = 0) && isWhite a
  | d, [] => decide (d = 0)
/-- the bytes from e up to f. -/
def seg (l : List UInt8) (e f : Nat) : List UInt8 := (l.drop e).take (f - e)
/-- the tokens rise from e on, and what stands between them is white and remarks. -/
def Chain (l : List UInt8) : Nat → List Tok → Prop
  | e, [] => gapB 0 (seg l e l.length) = true
  | e, t :: ts => e ≤ t.a ∧ t.a < t.b ∧ t.b ≤ l.length ∧ gapB 0 (seg l e t.a) = true ∧ Chain l t.b ts

theorem white_not {c : UInt8} (h : isWhite c = true) : ¬ c.toNat = 40 := by
  simp only [isWhite, decide_eq_true_eq] at h
  omega
theorem gap_white (c : UInt8) (h : isWhite c = true) : ∀ x : List UInt8, gapB 0 (c :: x) = gapB 0 x
  | [] => by simp [gapB, h]
  | b :: t => by
    rw [gapB, if_neg (fun x => white_not h x.1), if_neg (fun x => absurd x.1 (by omega)), if_neg (by simp [h])]
theorem rem_gap : ∀ (n d : Nat) (l : List UInt8) (m : Nat) (x : List UInt8), l.length ≤ n → 0 < d → remN d l = some m → gapB d (l.take m ++ x) = gapB 0 x
  | 0, d, l, m, x, hl, _, h => by
    have : l = [] := List.eq_nil_of_length_eq_zero (by omega)
    subst this
    simp [remN] at h
  | n + 1, d, [], m, _, _, _, h => by simp [remN] at h
  | n + 1, d, [_], m, _, _, _, h => by simp [remN] at h
  | n + 1, d, a :: b :: t, m, x, hl, hd, h => by
    simp only [List.length_cons] at hl
    rw [remN] at h
    split at h
    · rename_i h1
      simp only [Option.map_eq_some_iff] at h
      obtain ⟨y, hy, rfl⟩ := h
      simp only [List.take_succ_cons, List.cons_append]
      rw [gapB, if_pos h1]
      exact rem_gap n (d + 1) t y x (by omega) (by omega) hy
    · rename_i h1
      split at h
      · rename_i h2
        split at h
        · rename_i h3
          simp only [Option.some.injEq] at h
          subst h h3
          simp only [List.take_succ_cons, List.take_zero, List.cons_append, List.nil_append]
          rw [gapB, if_neg h1, if_pos ⟨by omega, h2⟩]
        · rename_i h3
          simp only [Option.map_eq_some_iff] at h
          obtain ⟨y, hy, rfl⟩ := h
          simp only [List.take_succ_cons, List.cons_append]
          rw [gapB, if_neg h1, if_pos ⟨by omega, h2⟩]
          exact rem_gap n (d - 1) t y x (by omega) (by omega) hy
      · rename_i h2
        simp only [Option.map_eq_some_iff] at h
        obtain ⟨y, hy, rfl⟩ := h
        have hb := rem_bounds n d (b :: t) (by simp; omega) y hy
        obtain ⟨z, rfl⟩ : ∃ z, y = z + 1 := ⟨y - 1, by omega⟩
        simp only [List.take_succ_cons, List.cons_append]
        rw [gapB, if_neg h1, if_neg (fun x => h2 x.2), if_neg (fun x => absurd x.1 (by omega))]
        have := rem_gap n d (b :: t) (z + 1) x (by simp; omega) hd hy
        simpa using this
theorem rem_gap0 {l : List UInt8} {m : Nat} (x : List UInt8) (ho : opens l = true) (h : remN 0 l = some m) : gapB 0 (l.take m ++ x) = gapB 0 x := by
  match l, ho, h with
  | a :: b :: t, ho, h =>
    simp only [opens, decide_eq_true_eq] at ho
    rw [remN, if_pos ho] at h
    simp only [Option.map_eq_some_iff] at h
    obtain ⟨y, hy, rfl⟩ := h
    simp only [List.take_succ_cons, List.cons_append]
    rw [gapB, if_pos ho]
    exact rem_gap _ 1 t y x (Nat.le_refl _) (by omega) hy

theorem seg_self (l : List UInt8) (e : Nat) : seg l e e = [] := by simp [seg]
theorem seg_more (l : List UInt8) {e k n : Nat} (h : e ≤ k) : seg l e (k + n) = seg l e k ++ (l.drop k).take n := by
  unfold seg
  have e1 : k + n - e = (k - e) + n := by omega
  rw [e1, List.take_add, List.drop_drop]
  congr 3
  omega
theorem chain_at (l : List UInt8) : ∀ (n k e : Nat), l.length - k ≤ n → e ≤ k → k ≤ l.length → (∀ x, gapB 0 (seg l e k ++ x) = gapB 0 x) → Chain l e (lexAt l k) := by
  intro n
  induction n with
  | zero =>
    intro k e hn he hk hg
    obtain rfl : k = l.length := by omega
    rw [at_end l _ (Nat.le_refl _)]
    have := hg []
    rw [List.append_nil] at this
    exact this
  | succ n ih =>
    intro k e hn he hk hg
    rcases Nat.lt_or_ge k l.length with hlt | hge
    · have hdl : (l.drop k).length = l.length - k := List.length_drop
      cases hw : isWhite l[k]
      · cases ho : opens (l.drop k)
        · rw [at_tok l k hlt hw ho]
          have hb := tok_bounds l[k] (l.drop (k + 1))
          rw [← drop_cons l k hlt, hdl] at hb
          have h0 := hg []
          rw [List.append_nil] at h0
          refine ⟨he, ?_, ?_, h0, ?_⟩
          · show k < k + _; omega
          · show k + _ ≤ _; omega
          · exact ih _ _ (by omega) (Nat.le_refl _) (by omega) (fun x => by rw [seg_self]; rfl)
        · cases hr : remN 0 (l.drop k) with
          | none =>
            rw [at_none l k hlt hw ho hr]
            have h0 := hg []
            rw [List.append_nil] at h0
            refine ⟨he, hlt, Nat.le_refl _, h0, ?_⟩
            show gapB 0 (seg l l.length l.length) = true
            rw [seg_self]; rfl
          | some m =>
            rw [at_some l k hlt hw ho m hr]
            have hb := rem_bounds _ _ _ (Nat.le_refl _) m hr
            rw [hdl] at hb
            refine ih _ _ (by omega) (by omega) (by omega) (fun x => ?_)
            rw [seg_more l he, List.append_assoc, hg, rem_gap0 x ho hr]
      · rw [at_white l k hlt hw]
        refine ih _ _ (by omega) (by omega) (by omega) (fun x => ?_)
        rw [seg_more l he, List.append_assoc, hg, drop_cons l k hlt]
        exact gap_white _ hw x
    · obtain rfl : k = l.length := by omega
      rw [at_end l _ (Nat.le_refl _)]
      have := hg []
      rw [List.append_nil] at this
      exact this
theorem lex_chain (l : List UInt8) : Chain l 0 (lexF l) :=
  chain_at l _ 0 0 (Nat.le_refl _) (Nat.le_refl _) (Nat.zero_le _) (fun x => by rw [seg_self]; rfl)
theorem chain_len (l : List UInt8) : ∀ (ts : List Tok) (e : Nat), e ≤ l.length → Chain l e ts → ts.length ≤ l.length - e
  | [], _, _, _ => by simp
  | t :: ts, e, he, h => by
    obtain ⟨h1, h2, h3, _, h5⟩ := h
    have := chain_len l ts t.b h3 h5
    simp only [List.length_cons]
    omega
theorem drop_some {ts : List Tok} {i : Nat} {t : Tok} (h : ts[i]? = some t) : ts.drop i = t :: ts.drop (i + 1) := by
  obtain ⟨hi, rfl⟩ := List.getElem?_eq_some_iff.1 h
  exact List.drop_eq_getElem_cons hi
end Lx
end Go.Proofs.YtmpmibebkflaiaaGreatDoor
