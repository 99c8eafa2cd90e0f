/- The fronts and ends that two texts share: plain mathematics. -/
import Derived.Test.YtdeihlbnlogjcaaDoorTexL
namespace Go.Proofs.YtdeihlbnlogjcaaDoor
open Go.RowKit Go.Lib Go.Shelf
set_option linter.unusedVariables false

/-- is there a byte of a rune, but not its first, at this place? -/
def contB (c : UInt8) : Bool := decide (c.toNat / 64 = 2)
def contL (L : List UInt8) (n : Nat) : Bool := match L[n]? with | some c => contB c | none => false
theorem enc_bytes (r : Int) (h : Ut.isR r = true) : ∀ j c, (encodeRune r)[j]? = some c → (contB c = true ↔ j ≠ 0) := by
  have key : ∀ j (x : Int), (encodeRuneZ r)[j]? = some x → 0 ≤ x ∧ x < 256 ∧ (x / 64 = 2 ↔ j ≠ 0) := by
    rcases Ut.enc_cases r h with ⟨h0, h1, e⟩ | ⟨h0, h1, e⟩ | ⟨h0, h1, h2, e⟩ | ⟨h0, h1, e⟩ <;> rw [e] <;> intro j x hx
    · match j, hx with
      | 0, hx => simp at hx; omega
      | j + 1, hx => simp at hx
    · match j, hx with
      | 0, hx => simp at hx; omega
      | 1, hx => simp at hx; omega
      | j + 2, hx => simp at hx
    · match j, hx with
      | 0, hx => simp at hx; omega
      | 1, hx => simp at hx; omega
      | 2, hx => simp at hx; omega
      | j + 3, hx => simp at hx
    · match j, hx with
      | 0, hx => simp at hx; omega
      | 1, hx => simp at hx; omega
      | 2, hx => simp at hx; omega
      | 3, hx => simp at hx; omega
      | j + 4, hx => simp at hx
  intro j c hc
  unfold encodeRune at hc
  rw [List.getElem?_map] at hc
  cases hz : (encodeRuneZ r)[j]? with
  | none => rw [hz] at hc; cases hc
  | some x =>
    rw [hz] at hc
    simp only [Option.map_some, Option.some.injEq] at hc
    obtain ⟨k0, k1, k2⟩ := key j x hz
    have := Ut.u8 x k0 k1
    rw [hc] at this
    unfold contB
    rw [decide_eq_true_eq, this, ← k2]
    omega
/-- a part of a rune is no text. -/
theorem part_no (r : Int) (h : Ut.isR r = true) (j : Nat) (h0 : 0 < j) (hj : j < (encodeRune r).length) : validD ((encodeRune r).take j) = false := by
  cases hv : validD ((encodeRune r).take j)
  · rfl
  · exfalso
    have hl : ((encodeRune r).take j).length = j := by rw [List.length_take]; omega
    have hne : (encodeRune r).take j ≠ [] := by
      intro e
      rw [e] at hl
      simp at hl
      omega
    by_cases ok : Ut.okH ((encodeRune r).take j)
    · have hsp := Ut.dec_split _ hne ok
      have hi := Ut.dec_isR _ ok
      obtain ⟨u, hu⟩ : ∃ u : Int, u = ((decodeL ((encodeRune r).take j)).1 : Int) := ⟨_, rfl⟩
      rw [← hu] at hsp hi
      have e := List.take_append_drop j (encodeRune r)
      rw [hsp, List.append_assoc] at e
      have d1 := (Ut.dec_enc r h []).1
      rw [List.append_nil] at d1
      have d2 := (Ut.dec_enc u hi ((List.drop (decodeL (List.take j (encodeRune r))).2 (List.take j (encodeRune r))) ++ List.drop j (encodeRune r))).1
      rw [e] at d2
      have hlen := (Prod.mk.inj (d2.symm.trans d1)).2
      have : (encodeRune u).length ≤ j := by
        rw [← hl]
        conv => rhs; rw [hsp]
        simp
      omega
    · rw [Ut.validD_no _ hne ok] at hv
      cases hv
/-- where a text may be cut. -/
theorem cont_iff : ∀ (rs : List Int), (∀ r ∈ rs, Ut.isR r = true) → ∀ n, n ≤ (Ut.encs rs).length → (contL (Ut.encs rs) n = false ↔ validD ((Ut.encs rs).take n) = true)
  | [], _, n, h => by
    simp [Ut.encs] at h
    subst h
    simp [Ut.encs, contL]
    rfl
  | r :: rs, hr, n, h => by
    have hi := hr r (List.mem_cons_self ..)
    have hl := Ut.enc_len r hi
    rw [Ut.encs_cons] at h ⊢
    rcases Nat.lt_or_ge n (encodeRune r).length with hn | hn
    · rw [List.take_append_of_le_length (by omega)]
      have hc : contL (encodeRune r ++ Ut.encs rs) n = decide (n ≠ 0) := by
        unfold contL
        rw [List.getElem?_append_left hn, List.getElem?_eq_getElem hn]
        have := enc_bytes r hi n _ (List.getElem?_eq_getElem hn)
        simp only
        rw [Bool.eq_iff_iff, this, decide_eq_true_eq]
      rw [hc]
      rcases Nat.eq_zero_or_pos n with h0 | h0
      · subst h0
        simp [Ut.validD_nil]
      · rw [part_no r hi n h0 hn]
        simp
        omega
    · have hc : contL (encodeRune r ++ Ut.encs rs) n = contL (Ut.encs rs) (n - (encodeRune r).length) := by
        unfold contL
        rw [List.getElem?_append_right hn]
      have hv : validD (encodeRune r) = true := by
        have := (Ut.encs_valid [r] (by simpa using hi)).1
        simpa [Ut.encs] using this
      rw [hc, List.take_append, List.take_of_length_le hn, valid_app _ _ hv]
      exact cont_iff rs (fun u hu => hr u (List.mem_cons_of_mem _ hu)) _ (by rw [List.length_append] at h; omega)
theorem cont_valid (L : List UInt8) (hv : validD L = true) (n : Nat) (hn : n ≤ L.length) : contL L n = false ↔ validD (L.take n) = true := by
  obtain ⟨k1, k2, -⟩ := Ut.valid_all L hv
  have := cont_iff (Ut.runesF L) k2 n (by rw [k1]; exact hn)
  rwa [k1] at this

/-! ### the bytes that two lists begin with -/
def comF : List UInt8 → List UInt8 → Nat
  | a :: l, b :: m => if a = b then comF l m + 1 else 0
  | _, _ => 0
theorem com_le : ∀ l m : List UInt8, comF l m ≤ l.length ∧ comF l m ≤ m.length
  | [], _ => ⟨Nat.zero_le _, Nat.zero_le _⟩
  | _ :: _, [] => ⟨Nat.zero_le _, Nat.zero_le _⟩
  | a :: l, b :: m => by
    have := com_le l m
    unfold comF
    split <;> simp <;> omega
theorem com_take : ∀ (l m : List UInt8) (k : Nat), k ≤ comF l m → l.take k = m.take k
  | [], m, k, h => by
    have : k = 0 := by simpa [comF] using h
    subst this
    simp
  | _ :: _, [], k, h => by
    have : k = 0 := by simpa [comF] using h
    subst this
    simp
  | a :: l, b :: m, 0, _ => by simp
  | a :: l, b :: m, k + 1, h => by
    unfold comF at h
    split at h
    · rename_i e
      rw [List.take_succ_cons, List.take_succ_cons, e, com_take l m k (by omega)]
    · omega
theorem com_get {l m : List UInt8} {k : Nat} (h : k < comF l m) : l[k]? = m[k]? := by
  have := com_take l m (k + 1) h
  have e1 : (l.take (k + 1))[k]? = l[k]? := List.getElem?_take_of_lt (Nat.lt_succ_self k)
  have e2 : (m.take (k + 1))[k]? = m[k]? := List.getElem?_take_of_lt (Nat.lt_succ_self k)
  rw [← e1, ← e2, this]
/-- how far they go, byte by byte. -/
theorem com_next : ∀ (l m : List UInt8) (k : Nat), k ≤ comF l m → (k < comF l m ↔ k < l.length ∧ k < m.length ∧ l[k]? = m[k]?)
  | [], m, k, h => by simp [comF]
  | _ :: _, [], k, h => by simp [comF]
  | a :: l, b :: m, 0, _ => by
    unfold comF
    by_cases e : a = b
    · rw [if_pos e]
      simp [e]
    · rw [if_neg e]
      simp [e]
  | a :: l, b :: m, k + 1, h => by
    unfold comF at h ⊢
    by_cases e : a = b
    · rw [if_pos e] at h ⊢
      have := com_next l m k (by omega)
      simp only [List.length_cons, List.getElem?_cons_succ]
      constructor
      · intro h1
        have := this.1 (by omega)
        exact ⟨by omega, by omega, this.2.2⟩
      · rintro ⟨a1, a2, a3⟩
        have := this.2 ⟨by omega, by omega, a3⟩
        omega
    · rw [if_neg e] at h
      omega
theorem com_mono {l m : List UInt8} {k : Nat} (h1 : k ≤ l.length) (h2 : k ≤ m.length) (h : l.take k = m.take k) : k ≤ comF l m := by
  induction l generalizing m k with
  | nil =>
    have : k = 0 := by simpa using h1
    omega
  | cons a l ih =>
    cases k with
    | zero => omega
    | succ k =>
      cases m with
      | nil => simp at h2
      | cons b m =>
        rw [List.take_succ_cons, List.take_succ_cons, List.cons.injEq] at h
        unfold comF
        rw [if_pos h.1]
        have := ih (m := m) (k := k) (by simpa using h1) (by simpa using h2) h.2
        omega
theorem com_self (l : List UInt8) : comF l l = l.length := Nat.le_antisymm (com_le l l).1 (com_mono (Nat.le_refl _) (Nat.le_refl _) rfl)

/-! ### back to where both may be cut -/
def backN (L M : List UInt8) : Nat → Nat
  | 0 => 0
  | n + 1 => if contL L (n + 1) || contL M (n + 1) then backN L M n else n + 1
def frontB (L M : List UInt8) : Nat := backN L M (comF L M)
theorem back_le (L M : List UInt8) : ∀ n, backN L M n ≤ n
  | 0 => Nat.le_refl _
  | n + 1 => by
    have := back_le L M n
    unfold backN
    split <;> omega
theorem cont_zero {L : List UInt8} (hv : validD L = true) : contL L 0 = false := (cont_valid L hv 0 (Nat.zero_le _)).2 (by simp [Ut.validD_nil])
theorem back_cut (L M : List UInt8) (hL : validD L = true) (hM : validD M = true) : ∀ n, contL L (backN L M n) = false ∧ contL M (backN L M n) = false
  | 0 => ⟨cont_zero hL, cont_zero hM⟩
  | n + 1 => by
    unfold backN
    split
    · exact back_cut L M hL hM n
    · rename_i h
      simp only [Bool.or_eq_true, not_or, Bool.not_eq_true] at h
      exact h
theorem back_max (L M : List UInt8) : ∀ n k, k ≤ n → contL L k = false → contL M k = false → k ≤ backN L M n
  | 0, k, h, _, _ => h
  | n + 1, k, h, h1, h2 => by
    unfold backN
    split
    · rename_i hc
      rcases Nat.lt_or_ge k (n + 1) with hk | hk
      · exact back_max L M n k (by omega) h1 h2
      · have : k = n + 1 := by omega
        subst this
        rw [h1, h2] at hc
        cases hc
    · exact h
/-- the front of both. -/
theorem front_spec (L M : List UInt8) (hL : validD L = true) (hM : validD M = true) :
    frontB L M ≤ L.length ∧ frontB L M ≤ M.length ∧ L.take (frontB L M) = M.take (frontB L M) ∧ validD (L.take (frontB L M)) = true ∧ validD (M.take (frontB L M)) = true := by
  have h1 := back_le L M (comF L M)
  have h2 := com_le L M
  have h3 := back_cut L M hL hM (comF L M)
  have h4 : frontB L M ≤ comF L M := h1
  have a1 : frontB L M ≤ L.length := by omega
  have a2 : frontB L M ≤ M.length := by omega
  exact ⟨a1, a2, com_take L M _ h4, (cont_valid L hL _ a1).1 h3.1, (cont_valid M hM _ a2).1 h3.2⟩
theorem front_max (L M : List UInt8) (hL : validD L = true) (hM : validD M = true) (k : Nat) (h1 : k ≤ L.length) (h2 : k ≤ M.length) (h : L.take k = M.take k) (v : validD (L.take k) = true) : k ≤ frontB L M :=
  back_max L M _ k (com_mono h1 h2 h) ((cont_valid L hL k h1).2 v) ((cont_valid M hM k h2).2 (h ▸ v))
theorem front_self (L : List UInt8) (hL : validD L = true) : frontB L L = L.length :=
  Nat.le_antisymm (front_spec L L hL hL).1 (front_max L L hL hL _ (Nat.le_refl _) (Nat.le_refl _) rfl (by rw [List.take_length]; exact hL))

/-! ### the bytes that two lists end with -/
def comE (L M : List UInt8) : Nat := comF L.reverse M.reverse
def backE (L : List UInt8) : Nat → Nat
  | 0 => 0
  | n + 1 => if contL L (L.length - (n + 1)) then backE L n else n + 1
def endB (L M : List UInt8) : Nat := backE L (comE L M)
theorem backE_le (L : List UInt8) : ∀ n, backE L n ≤ n
  | 0 => Nat.le_refl _
  | n + 1 => by
    have := backE_le L n
    unfold backE
    split <;> omega
theorem cont_len (L : List UInt8) : contL L L.length = false := by
  unfold contL
  rw [List.getElem?_eq_none (Nat.le_refl _)]
theorem backE_cut (L : List UInt8) : ∀ n, contL L (L.length - backE L n) = false
  | 0 => cont_len L
  | n + 1 => by
    unfold backE
    split
    · exact backE_cut L n
    · rename_i h
      simpa using h
theorem backE_max (L : List UInt8) : ∀ n k, k ≤ n → contL L (L.length - k) = false → k ≤ backE L n
  | 0, k, h, _ => h
  | n + 1, k, h, h1 => by
    unfold backE
    split
    · rename_i hc
      rcases Nat.lt_or_ge k (n + 1) with hk | hk
      · exact backE_max L n k (by omega) h1
      · have : k = n + 1 := by omega
        subst this
        rw [h1] at hc
        cases hc
    · exact h
theorem end_spec (L M : List UInt8) (hL : validD L = true) :
    endB L M ≤ L.length ∧ endB L M ≤ M.length ∧ L.drop (L.length - endB L M) = M.drop (M.length - endB L M) ∧ validD (L.take (L.length - endB L M)) = true := by
  have h1 := backE_le L (comE L M)
  have h2 := com_le L.reverse M.reverse
  rw [List.length_reverse, List.length_reverse] at h2
  have h4 : endB L M ≤ comE L M := h1
  have h5 : comE L M = comF L.reverse M.reverse := rfl
  have a1 : endB L M ≤ L.length := by omega
  have a2 : endB L M ≤ M.length := by omega
  have h6 := com_take L.reverse M.reverse (endB L M) (by omega)
  rw [List.take_reverse, List.take_reverse] at h6
  exact ⟨a1, a2, List.reverse_inj.1 h6, (cont_valid L hL _ (by omega)).1 (backE_cut L _)⟩
theorem end_max (L M : List UInt8) (hL : validD L = true) (k : Nat) (h1 : k ≤ L.length) (h2 : k ≤ M.length) (h : L.drop (L.length - k) = M.drop (M.length - k)) (v : validD (L.take (L.length - k)) = true) : k ≤ endB L M := by
  refine backE_max L _ k (com_mono (by simpa using h1) (by simpa using h2) ?_) ((cont_valid L hL _ (by omega)).2 v)
  rw [List.take_reverse, List.take_reverse, h]
end Go.Proofs.YtdeihlbnlogjcaaDoor
