/- Tokens behind white; the tokens of a text behind an edit. -/
import Derived.Test.YtnmebingjpnlgaaRelF
namespace Go.Proofs.Ytnmebingjpnlgaa
namespace Lx
set_option linter.unusedVariables false
set_option linter.unusedSectionVars false

/-- what stands from a token on. -/
theorem at_get (l : List UInt8) : ∀ (N q i : Nat) (t : Tok), l.length - q ≤ N → q ≤ l.length → (lexAt l q)[i]? = some t → lexAt l t.a = (lexAt l q).drop i
  | N, q, i, t, hN, hq, h => by
    rcases Nat.lt_or_ge q l.length with hql | hql
    · match N, hN with
      | 0, hN => omega
      | N + 1, hN =>
        cases hw : isWhite l[q]
        · cases hop : opens (l.drop q)
          · have a1 := at_tok l q hql hw hop
            have hb := tok_bounds l[q] (l.drop (q + 1))
            rw [← drop_cons l q hql, List.length_drop] at hb
            obtain ⟨kd, n, et⟩ : ∃ kd n, tokF (l.drop q) = (kd, n) := ⟨_, _, rfl⟩
            rw [et] at a1 hb
            match i with
            | 0 =>
              rw [a1] at h
              simp only [List.getElem?_cons_zero, Option.some.injEq] at h
              rw [← h]; rfl
            | i + 1 =>
              rw [a1] at h ⊢
              rw [List.getElem?_cons_succ] at h
              rw [List.drop_succ_cons]
              exact at_get l N (q + n) i t (by omega) (by omega) h
          · cases hr : remN 0 (l.drop q) with
            | none =>
              have a1 := at_none l q hql hw hop hr
              rw [a1] at h
              match i with
              | 0 =>
                simp only [List.getElem?_cons_zero, Option.some.injEq] at h
                rw [← h]; rfl
              | i + 1 => simp at h
            | some n =>
              have a1 := at_some l q hql hw hop n hr
              have hn := rem_bounds _ _ _ (Nat.le_refl _) n hr
              rw [List.length_drop] at hn
              rw [a1] at h ⊢
              exact at_get l N (q + n) i t (by omega) (by omega) h
        · have a1 := at_white l q hql hw
          rw [a1] at h ⊢
          exact at_get l N (q + 1) i t (by omega) (by omega) h
    · rw [at_end l q hql] at h
      simp at h

/-! ### white behind -/
section
variable {w : UInt8} (hw : isWhite w = true) (y : List UInt8)
include hw
theorem white_is : w = 32 ∨ w = 9 ∨ w = 10 ∨ w = 13 := by
  simp only [isWhite, decide_eq_true_eq] at hw
  rcases hw with h | h | h | h
  · exact .inl (UInt8.toNat_inj.1 h)
  · exact .inr (.inl (UInt8.toNat_inj.1 h))
  · exact .inr (.inr (.inl (UInt8.toNat_inj.1 h)))
  · exact .inr (.inr (.inr (UInt8.toNat_inj.1 h)))
theorem wh_name : nameCh [39] w = false ∧ nameCh [] w = false ∧ isDigit w = false ∧ isSmall w = false ∧ (∀ a, twoSign a w = false) ∧ w ≠ 42 := by
  have h := white_is hw
  clear hw
  rcases h with rfl | rfl | rfl | rfl <;> exact ⟨by decide, by decide, by decide, by decide, fun a => by simp [twoSign], by decide⟩
theorem tw_wh {p : UInt8 → Bool} (hp : p w = false) : ∀ l : List UInt8, (l ++ w :: y).takeWhile p = l.takeWhile p
  | [] => by simp [hp]
  | c :: t => by
    rw [List.cons_append, List.takeWhile_cons, List.takeWhile_cons, tw_wh hp t]
theorem runN_wh {m : List UInt8} (hm : nameCh m w = false) (l : List UInt8) : runN m (l ++ w :: y) = runN m l := by
  unfold runN
  rw [tw_wh hw y hm l]
theorem tick_wh : ∀ l : List UInt8, isTick (l ++ w :: y) = isTick l
  | [] => by
    have h := white_is hw
    clear hw
    rcases h with rfl | rfl | rfl | rfl <;> cases y <;> simp [isTick]
  | [a] => by simp [isTick, (wh_name hw).2.2.2.1]
  | _ :: _ :: _ => rfl
theorem sign_wh : ∀ l : List UInt8, l ≠ [] → signN (l ++ w :: y) = signN l
  | [], h => absurd rfl h
  | [a], _ => by
    show signN (a :: w :: y) = signN [a]
    rw [signN, signN, if_neg (by rw [(wh_name hw).2.2.2.2.1 a]; decide)]
  | _ :: _ :: _, _ => rfl
theorem begins_wh : ∀ l : List UInt8, l ≠ [] → begins (l ++ w :: y) = begins l
  | [], h => absurd rfl h
  | c :: t, h => by
    have h1 := tick_wh hw y (c :: t)
    have h2 := sign_wh hw y (c :: t) h
    rw [List.cons_append] at h1 h2 ⊢
    simp only [begins, h1, h2]
theorem err_wh : ∀ l : List UInt8, errN (l ++ w :: y) = errN l
  | [] => by
    show errN (w :: y) = 0
    rw [errN, if_pos]
    simp [begins, hw]
  | c :: t => by
    have h1 := begins_wh hw y (c :: t) (by simp)
    rw [List.cons_append] at h1 ⊢
    rw [errN, errN, h1, err_wh t]
theorem opens_wh : ∀ l : List UInt8, l ≠ [] → opens (l ++ w :: y) = opens l
  | [], h => absurd rfl h
  | [a], _ => by
    have h := white_is hw
    clear hw
    rcases h with rfl | rfl | rfl | rfl <;> simp [opens]
  | _ :: _ :: _, _ => rfl
theorem tok_wh (c : UInt8) (t : List UInt8) : tokF (c :: (t ++ w :: y)) = tokF (c :: t) := by
  have e : c :: (t ++ w :: y) = (c :: t) ++ w :: y := rfl
  have r1 : runN [39] (c :: (t ++ w :: y)) = runN [39] (c :: t) := runN_wh hw y (wh_name hw).1 (c :: t)
  have r2 : runN [] (t ++ w :: y) = runN [] t := runN_wh hw y (wh_name hw).2.1 t
  have r3 : digN (t ++ w :: y) = digN t := by
    unfold digN
    rw [tw_wh hw y (wh_name hw).2.2.1 t]
  have r4 : isTick (c :: (t ++ w :: y)) = isTick (c :: t) := tick_wh hw y (c :: t)
  have r5 : signN (c :: (t ++ w :: y)) = signN (c :: t) := sign_wh hw y (c :: t) (by simp)
  have r6 := err_wh hw y t
  have r7 : (c :: (t ++ w :: y)).take (runN [39] (c :: t)) = (c :: t).take (runN [39] (c :: t)) := by
    rw [e]
    exact List.take_append_of_le_length (tw_le _)
  simp only [tokF, r1, r2, r3, r4, r5, r6, r7]
/-- behind white, ahead of which no remark is open, a text is read by itself. -/
theorem lex_wh (p : List UInt8) : ∀ (N q : Nat), p.length - q ≤ N → q ≤ p.length → (∀ t ∈ lexAt p q, t.kind = 7 → opens (p.drop t.a) = false) → lexAt (p ++ w :: y) q = lexAt p q ++ (lexF y).map (shiftT (p.length + 1))
  | N, q, hN, hq, ho => by
    rcases Nat.lt_or_ge q p.length with hql | hql
    · have hql' : q < (p ++ w :: y).length := by rw [List.length_append]; omega
      have g : (p ++ w :: y)[q] = p[q] := List.getElem_append_left hql
      have d : (p ++ w :: y).drop q = p.drop q ++ w :: y := List.drop_append_of_le_length hq
      have dc := drop_cons p q hql
      match N, hN with
      | 0, hN => omega
      | N + 1, hN =>
        cases hc : isWhite p[q]
        · have e1 : opens ((p ++ w :: y).drop q) = opens (p.drop q) := by rw [d, opens_wh hw y (p.drop q) (by rw [dc]; exact List.cons_ne_nil _ _)]
          cases hop : opens (p.drop q)
          · have a1 := at_tok p q hql hc hop
            have a2 := at_tok (p ++ w :: y) q hql' (by rw [g]; exact hc) (by rw [e1]; exact hop)
            have et : tokF ((p ++ w :: y).drop q) = tokF (p.drop q) := by rw [d, dc, List.cons_append, tok_wh hw y]
            have hb := (tok_bounds p[q] (p.drop (q + 1)))
            rw [← dc, List.length_drop] at hb
            rw [et] at a2
            rw [a1] at ho
            rw [a1, a2, List.cons_append, lex_wh p N _ (by omega) (by omega) (fun t ht => ho t (List.mem_cons_of_mem _ ht))]
          · cases hr : remN 0 (p.drop q) with
            | none =>
              have a1 := at_none p q hql hc hop hr
              have := ho ⟨7, q, p.length⟩ (by rw [a1]; simp) rfl
              simp only at this
              rw [hop] at this
              simp at this
            | some n =>
              have a1 := at_some p q hql hc hop n hr
              have hn := rem_bounds _ _ _ (Nat.le_refl _) n hr
              rw [List.length_drop] at hn
              have a2 := at_some _ q hql' (by rw [g]; exact hc) (by rw [e1]; exact hop) n (by rw [d]; exact rem_app _ _ 0 _ n (Nat.le_refl _) hr)
              rw [a1] at ho ⊢
              rw [a2]
              exact lex_wh p N (q + n) (by omega) (by omega) ho
        · have a1 := at_white p q hql hc
          have a2 := at_white _ q hql' (by rw [g]; exact hc)
          rw [a1] at ho ⊢
          rw [a2]
          exact lex_wh p N (q + 1) (by omega) (by omega) ho
    · have e : q = p.length := by omega
      subst e
      rw [at_end p _ (Nat.le_refl _), List.nil_append, at_white _ _ (by simp) (by simp [hw]), at_shift]
      congr 2
      rw [← List.drop_drop, List.drop_left]
      rfl
end
theorem shift_zero (ts : List Tok) : ts.map (shiftT 0) = ts := by
  have : shiftT 0 = id := by funext t; rfl
  rw [this, List.map_id]
/-- is the last token a remark that doesn't end? -/
def openB (p : List UInt8) (ts : List Tok) : Bool := match ts.getLast? with | none => false | some t => decide (t.kind = 7) && opens ((p.drop t.a).take (t.b - t.a))
theorem open_none (p : List UInt8) : ∀ (N q : Nat), p.length - q ≤ N → q ≤ p.length → openB p (lexAt p q) = false → ∀ t ∈ lexAt p q, t.kind = 7 → opens (p.drop t.a) = false
  | N, q, hN, hq, ho, t, ht, h7 => by
    rcases Nat.lt_or_ge q p.length with hql | hql
    · have dc := drop_cons p q hql
      match N, hN with
      | 0, hN => omega
      | N + 1, hN =>
        cases hc : isWhite p[q]
        · cases hop : opens (p.drop q)
          · have a1 := at_tok p q hql hc hop
            have hb := (tok_bounds p[q] (p.drop (q + 1)))
            rw [← dc, List.length_drop] at hb
            rw [a1] at ho ht
            rcases List.mem_cons.1 ht with rfl | ht
            · exact hop
            · refine open_none p N (q + (tokF (p.drop q)).2) (by omega) (by omega) ?_ t ht h7
              cases hl : lexAt p (q + (tokF (p.drop q)).2) with
              | nil => rfl
              | cons z zs =>
                rw [hl] at ho
                simpa [openB, List.getLast?_cons_cons] using ho
          · cases hr : remN 0 (p.drop q) with
            | none =>
              have a1 := at_none p q hql hc hop hr
              rw [a1] at ho
              simp only [openB, List.getLast?_singleton, decide_true, Bool.true_and] at ho
              rw [List.take_of_length_le (by rw [List.length_drop]; omega), hop] at ho
              simp at ho
            | some n =>
              have a1 := at_some p q hql hc hop n hr
              have hn := rem_bounds _ _ _ (Nat.le_refl _) n hr
              rw [List.length_drop] at hn
              rw [a1] at ho ht
              exact open_none p N (q + n) (by omega) (by omega) ho t ht h7
        · have a1 := at_white p q hql hc
          rw [a1] at ho ht
          exact open_none p N (q + 1) (by omega) (by omega) ho t ht h7
    · rw [at_end p q hql] at ht
      simp at ht
/-- behind white, ahead of which no remark is open, a text is read by itself. -/
theorem lex_parts (p y : List UInt8) {w : UInt8} (hw : isWhite w = true) (ho : openB p (lexF p) = false) : lexF (p ++ w :: y) = lexF p ++ (lexF y).map (shiftT (p.length + 1)) :=
  lex_wh hw y p _ 0 (Nat.le_refl _) (Nat.zero_le _) (open_none p _ 0 (Nat.le_refl _) (Nat.zero_le _) ho)

/-! ### the text behind an edit -/
section
variable (l mid : List UInt8) (fr to : Nat) (h1 : fr ≤ to) (h2 : to ≤ l.length)
/-- the text behind an edit. -/
def cutL : List UInt8 := l.take fr ++ mid ++ l.drop to
include h1 h2
theorem cut_len : (cutL l mid fr to).length = fr + mid.length + (l.length - to) := by
  unfold cutL
  rw [List.length_append, List.length_append, List.length_take, List.length_drop]; omega
theorem cut_take : l.take fr = (cutL l mid fr to).take fr := by
  unfold cutL
  rw [List.append_assoc, List.take_append_of_le_length (by rw [List.length_take]; omega), List.take_take, Nat.min_self]
theorem cut_drop {q : Nat} (hq : q ≤ fr) : (cutL l mid fr to).drop q = (l.take fr).drop q ++ mid ++ l.drop to := by
  unfold cutL
  rw [List.append_assoc, List.drop_append_of_le_length (by rw [List.length_take]; omega), List.append_assoc]
/-- the tokens ahead are kept, and the rest is read from where the last of them ends. -/
theorem cut_front (k : Nat) (hk : k ≤ (lexF l).length) (ht : ∀ t ∈ (lexF l).take k, t.b + 2 ≤ fr) :
    ∃ r, r ≤ fr ∧ (k = 0 → r = 0) ∧ (∀ t, 0 < k → (lexF l)[k - 1]? = some t → r = t.b) ∧ lexF (cutL l mid fr to) = (lexF l).take k ++ (lexF ((l.take fr).drop r ++ mid ++ l.drop to)).map (shiftT r) := by
  obtain ⟨r, e1, e2, e3⟩ := front_same l (cutL l mid fr to) fr (by omega) (by rw [cut_len l mid fr to h1 h2]; omega) (cut_take l mid fr to h1 h2) _ 0 k (Nat.le_refl _) (Nat.zero_le _) hk ht
  have hr : r ≤ fr := by
    rcases Nat.eq_zero_or_pos k with rfl | h0
    · rw [e2 rfl]; omega
    · have hl : k - 1 < (lexF l).length := by omega
      have hg := List.getElem?_eq_getElem hl
      have := e3 _ h0 hg
      have hm := ht ((lexF l)[k - 1]) (List.mem_take_iff_getElem.2 ⟨k - 1, by omega, rfl⟩)
      rw [this]; omega
  refine ⟨r, hr, e2, e3, ?_⟩
  rw [lexF_at, e1, at_shift (cutL l mid fr to) r, cut_drop l mid fr to h1 h2 hr]
  rfl
end
end Lx
end Go.Proofs.Ytnmebingjpnlgaa
