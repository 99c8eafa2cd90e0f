/- Plain facts on what the lexer computes. -/
import Derived.Test.YteialkkpoikelaaLexF
namespace Go.Proofs.Yteialkkpoikelaa
namespace Lx

theorem tw_le {p : UInt8 → Bool} (l : List UInt8) : (l.takeWhile p).length ≤ l.length := (List.takeWhile_prefix p).length_le
theorem runN_pos {m : List UInt8} {c : UInt8} {t : List UInt8} (h : nameCh m c = true) : 1 ≤ runN m (c :: t) := by
  simp [runN, h]
theorem errN_le : ∀ l : List UInt8, errN l ≤ l.length
  | [] => Nat.le_refl _
  | c :: t => by
    rw [errN]
    split
    · omega
    · have := errN_le t
      simp only [List.length_cons]; omega
theorem signN_le : ∀ l : List UInt8, signN l ≤ l.length
  | [] => Nat.le_refl _
  | [a] => by rw [signN]; split <;> simp
  | a :: b :: t => by
    rw [signN]
    split
    · simp
    · split <;> simp
theorem isTick_len : ∀ {l : List UInt8}, isTick l = true → 2 ≤ l.length
  | [], h => by simp [isTick] at h
  | [_], h => by simp [isTick] at h
  | _ :: _ :: _, _ => by simp
theorem tok_bounds (c : UInt8) (t : List UInt8) : 1 ≤ (tokF (c :: t)).2 ∧ (tokF (c :: t)).2 ≤ (c :: t).length := by
  have hr := tw_le (p := nameCh [39]) (c :: t)
  simp only [tokF]
  split
  · rename_i h
    refine ⟨runN_pos ?_, hr⟩
    simp only [nameCh, isLetter]
    simp only [Bool.or_eq_true, decide_eq_true_eq] at h ⊢
    rcases h with h | h
    · exact .inl (.inl (.inl (.inl h)))
    · exact .inl (.inr h)
  · split
    · rename_i h
      refine ⟨runN_pos ?_, hr⟩
      simp only [nameCh, isLetter, h, Bool.or_true, Bool.true_or]
    · split
      · have := tw_le (p := isDigit) t
        simp only [digN, List.length_cons]
        omega
      · split
        · have := tw_le (p := nameCh []) t
          simp only [runN, List.length_cons]
          omega
        · split
          · rename_i h
            exact ⟨h, signN_le _⟩
          · have := errN_le t
            simp only [List.length_cons]
            omega
theorem rem_bounds : ∀ (n d : Nat) (l : List UInt8), l.length ≤ n → ∀ m, remN d l = some m → 2 ≤ m ∧ m ≤ l.length
  | 0, d, l, hl, m, h => by
    have : l = [] := List.eq_nil_of_length_eq_zero (by omega)
    subst this
    simp [remN] at h
  | n + 1, d, [], _, m, h => by simp [remN] at h
  | n + 1, d, [_], _, m, h => by simp [remN] at h
  | n + 1, d, a :: b :: t, hl, m, h => by
    simp only [List.length_cons] at hl ⊢
    rw [remN] at h
    split at h
    · simp only [Option.map_eq_some_iff] at h
      obtain ⟨x, hx, rfl⟩ := h
      have := rem_bounds n _ t (by omega) x hx
      omega
    · split at h
      · split at h
        · simp at h; omega
        · simp only [Option.map_eq_some_iff] at h
          obtain ⟨x, hx, rfl⟩ := h
          have := rem_bounds n _ t (by omega) x hx
          omega
      · simp only [Option.map_eq_some_iff] at h
        obtain ⟨x, hx, rfl⟩ := h
        have := rem_bounds n _ (b :: t) (by simp; omega) x hx
        simp only [List.length_cons] at this
        omega
theorem lexN_fuel : ∀ (n f g p : Nat) (l : List UInt8), l.length ≤ n → l.length < f → l.length < g → lexN f p l = lexN g p l
  | _, 0, _, _, _, _, h, _ => by omega
  | _, _ + 1, 0, _, _, _, _, h => by omega
  | _, _ + 1, _ + 1, _, [], _, _, _ => rfl
  | 0, _ + 1, _ + 1, _, _ :: _, h, _, _ => by simp at h
  | n + 1, f + 1, g + 1, p, c :: t, hn, hf, hg => by
    have hb := tok_bounds c t
    simp only [List.length_cons] at hn hf hg hb
    rw [lexN, lexN]
    split
    · exact lexN_fuel n f g _ t (by omega) (by omega) (by omega)
    · split
      · cases hr : remN 0 (c :: t) with
        | none => rfl
        | some m =>
          have := rem_bounds _ _ _ (Nat.le_refl _) m hr
          simp only [List.length_cons] at this
          exact lexN_fuel n f g _ _ (by simp; omega) (by simp; omega) (by simp; omega)
      · congr 1
        exact lexN_fuel n f g _ _ (by simp; omega) (by simp; omega) (by simp; omega)

/-- the tokens from byte k on. -/
def lexAt (l : List UInt8) (k : Nat) : List Tok := lexN ((l.drop k).length + 1) k (l.drop k)
theorem lexF_at (l : List UInt8) : lexF l = lexAt l 0 := rfl
theorem lexN_at (l : List UInt8) (f k : Nat) (h : (l.drop k).length < f) : lexN f k (l.drop k) = lexAt l k :=
  lexN_fuel _ _ _ _ _ (Nat.le_refl _) h (Nat.lt_succ_self _)
theorem at_end (l : List UInt8) (k : Nat) (h : l.length ≤ k) : lexAt l k = [] := by
  unfold lexAt
  rw [List.drop_of_length_le h]; rfl
section
variable (l : List UInt8) (k : Nat) (h : k < l.length)
theorem drop_cons : l.drop k = l[k] :: l.drop (k + 1) := List.drop_eq_getElem_cons h
theorem at_white (hw : isWhite l[k] = true) : lexAt l k = lexAt l (k + 1) := by
  have e := drop_cons l k h
  conv => lhs; unfold lexAt
  rw [e, lexN, if_pos hw]
  refine lexN_at l _ _ ?_
  simp
  omega
theorem at_none (hw : isWhite l[k] = false) (ho : opens (l.drop k) = true) (hr : remN 0 (l.drop k) = none) : lexAt l k = [⟨7, k, l.length⟩] := by
  have e := drop_cons l k h
  conv => lhs; unfold lexAt
  rw [e] at ho hr ⊢
  rw [lexN, if_neg (by simp [hw]), if_pos ho, hr]
  simp
  omega
theorem at_some (hw : isWhite l[k] = false) (ho : opens (l.drop k) = true) (n : Nat) (hr : remN 0 (l.drop k) = some n) : lexAt l k = lexAt l (k + n) := by
  have e := drop_cons l k h
  have hb := rem_bounds _ _ _ (Nat.le_refl _) n hr
  have hl := congrArg List.length e
  conv => lhs; unfold lexAt
  rw [e] at ho hr ⊢
  rw [lexN, if_neg (by simp [hw]), if_pos ho, hr]
  show lexN _ (k + n) (List.drop n (l[k] :: l.drop (k + 1))) = _
  rw [← e, List.drop_drop]
  refine lexN_at l _ _ ?_
  simp at hb ⊢
  omega
theorem at_tok (hw : isWhite l[k] = false) (ho : opens (l.drop k) = false) : lexAt l k = ⟨(tokF (l.drop k)).1, k, k + (tokF (l.drop k)).2⟩ :: lexAt l (k + (tokF (l.drop k)).2) := by
  have e := drop_cons l k h
  have hb := tok_bounds l[k] (l.drop (k + 1))
  conv => lhs; unfold lexAt
  rw [e] at ho ⊢
  rw [lexN, if_neg (by simp [hw]), if_neg (by rw [ho]; decide)]
  congr 1
  rw [← e, List.drop_drop]
  rw [← e] at hb
  refine lexN_at l _ _ ?_
  simp at hb ⊢
  omega
end
end Lx
end Go.Proofs.Yteialkkpoikelaa
