/- Texts as runes: plain mathematics, nothing of the program. -/
import Derived.Lib.MapLaws
import Derived.Lib.ValidLaws
import Derived.Lib.TrimUEq
import Derived.Lib.RuneBytes
namespace Go.Proofs.YtdeihlbnlogjcaaDoor.Ut
open Go.Lib
set_option linter.unusedVariables false

def isR (r : Int) : Bool := decide ((0 ≤ r ∧ r < 55296) ∨ (57344 ≤ r ∧ r ≤ 1114111))
/-- does a list of bytes begin with a rune's bytes? -/
def okH (l : List UInt8) : Prop := ¬ ((decodeL l).1 = 65533 ∧ (decodeL l).2 = 1)
instance (l : List UInt8) : Decidable (okH l) := inferInstanceAs (Decidable (¬ _))
def encs (rs : List Int) : List UInt8 := rs.flatMap encodeRune

theorem enc_cases (r : Int) (h : isR r = true) :
    (0 ≤ r ∧ r ≤ 127 ∧ encodeRuneZ r = [r]) ∨ (128 ≤ r ∧ r ≤ 2047 ∧ encodeRuneZ r = [192 + r / 64, 128 + r % 64]) ∨
    (2048 ≤ r ∧ r ≤ 65535 ∧ (r < 55296 ∨ 57344 ≤ r) ∧ encodeRuneZ r = [224 + r / 4096, 128 + r / 64 % 64, 128 + r % 64]) ∨
    (65536 ≤ r ∧ r ≤ 1114111 ∧ encodeRuneZ r = [240 + r / 262144, 128 + r / 4096 % 64, 128 + r / 64 % 64, 128 + r % 64]) := by
  simp only [isR, decide_eq_true_eq] at h
  by_cases h1 : r ≤ 127
  · exact .inl ⟨by omega, h1, encodeRuneZ_one (by omega) h1⟩
  · by_cases h2 : r ≤ 2047
    · exact .inr (.inl ⟨by omega, h2, encodeRuneZ_two (by omega) h2⟩)
    · by_cases h3 : r ≤ 65535
      · exact .inr (.inr (.inl ⟨by omega, h3, by omega, encodeRuneZ_three (by omega)⟩))
      · exact .inr (.inr (.inr ⟨by omega, by omega, encodeRuneZ_four (by omega) (by omega)⟩))
theorem u8 (x : Int) (h0 : 0 ≤ x) (h1 : x < 256) : (x.toNat.toUInt8).toNat = x.toNat := by
  rw [Nat.toUInt8, UInt8.toNat_ofNat']
  omega
theorem getDa (a : UInt8) (t : List UInt8) : (a :: t).getD 0 0 = a := rfl
theorem getDs (a : UInt8) (t : List UInt8) (n : Nat) : (a :: t).getD (n + 1) 0 = t.getD n 0 := rfl
set_option maxHeartbeats 1000000 in
theorem dec_enc (r : Int) (h : isR r = true) (t : List UInt8) : decodeL (encodeRune r ++ t) = (r.toNat, (encodeRune r).length) ∧ okH (encodeRune r ++ t) := by
  have key : decodeL (encodeRune r ++ t) = (r.toNat, (encodeRune r).length) ∧ (65533 = r.toNat → (encodeRune r).length ≠ 1) := by
    rw [decodeL_N]
    unfold encodeRune
    rcases enc_cases r h with ⟨h0, h1, e⟩ | ⟨h0, h1, e⟩ | ⟨h0, h1, h2, e⟩ | ⟨h0, h1, e⟩
    · rw [e]
      simp only [List.map_cons, List.map_nil, List.cons_append, List.nil_append, getDa, getDs, List.length_cons, List.length_nil]
      rw [u8 r h0 (by omega)]
      unfold decodeN
      rw [if_pos (by omega)]
      exact ⟨rfl, by omega⟩
    · rw [e]
      simp only [List.map_cons, List.map_nil, List.cons_append, List.nil_append, getDa, getDs, List.length_cons, List.length_nil]
      rw [u8 (192 + r / 64) (by omega) (by omega), u8 (128 + r % 64) (by omega) (by omega)]
      unfold decodeN
      rw [if_neg (by omega), if_pos (by omega), if_pos (by omega)]
      exact ⟨by apply Prod.ext <;> simp only <;> omega, by omega⟩
    · rw [e]
      simp only [List.map_cons, List.map_nil, List.cons_append, List.nil_append, getDa, getDs, List.length_cons, List.length_nil]
      rw [u8 (224 + r / 4096) (by omega) (by omega), u8 (128 + r / 64 % 64) (by omega) (by omega), u8 (128 + r % 64) (by omega) (by omega)]
      unfold decodeN
      rw [if_neg (by omega), if_neg (by omega), if_pos (by omega), if_pos (by omega)]
      exact ⟨by apply Prod.ext <;> simp only <;> omega, by omega⟩
    · rw [e]
      simp only [List.map_cons, List.map_nil, List.cons_append, List.nil_append, getDa, getDs, List.length_cons, List.length_nil]
      rw [u8 (240 + r / 262144) (by omega) (by omega), u8 (128 + r / 4096 % 64) (by omega) (by omega), u8 (128 + r / 64 % 64) (by omega) (by omega), u8 (128 + r % 64) (by omega) (by omega)]
      unfold decodeN
      rw [if_neg (by omega), if_neg (by omega), if_neg (by omega), if_pos (by omega), if_pos (by omega)]
      exact ⟨by apply Prod.ext <;> simp only <;> omega, by omega⟩
  refine ⟨key.1, ?_⟩
  unfold okH
  rw [key.1]
  rintro ⟨h1, h2⟩
  exact key.2 h1.symm h2
theorem enc_len (r : Int) (h : isR r = true) : 1 ≤ (encodeRune r).length ∧ (encodeRune r).length ≤ 4 ∧ ((encodeRune r).length = 4 ↔ 65536 ≤ r) := by
  unfold encodeRune
  rcases enc_cases r h with ⟨h0, h1, e⟩ | ⟨h0, h1, e⟩ | ⟨h0, h1, h2, e⟩ | ⟨h0, h1, e⟩ <;> rw [e] <;> simp <;> omega
theorem dec_isR (l : List UInt8) (ok : okH l) : isR ((decodeL l).1 : Int) = true := by
  unfold okH at ok
  rw [decodeL_N] at ok ⊢
  simp only [isR, decide_eq_true_eq]
  have k0 := (l.getD 0 0).toNat_lt
  have k1 := (l.getD 1 0).toNat_lt
  have k2 := (l.getD 2 0).toNat_lt
  have k3 := (l.getD 3 0).toNat_lt
  rcases decodeN_shape l.length (l.getD 0 0).toNat (l.getD 1 0).toNat (l.getD 2 0).toNat (l.getD 3 0).toNat with ⟨c, e⟩ | ⟨c1, c2, c3, cv, e⟩ | ⟨c1, c2, c3, c4, cv, cs, e⟩ | ⟨c1, c2, c3, c4, c5, cv, cw, e⟩ | e
  · rw [e]; simp only; omega
  · rw [e]; simp only; omega
  · rw [e]; simp only; omega
  · rw [e]; simp only; omega
  · rw [e] at ok
    exact absurd ⟨rfl, rfl⟩ ok
theorem dec_split (l : List UInt8) (hne : l ≠ []) (ok : okH l) : l = encodeRune (decodeL l).1 ++ l.drop (decodeL l).2 := by
  rw [encode_decode l hne ok, List.take_append_drop]

/-! ### all runes -/
def runesN : Nat → List UInt8 → List Int
  | 0, _ => []
  | n + 1, l => if l = [] then [] else ((decodeL l).1 : Int) :: runesN n (l.drop (decodeL l).2)
def runesF (l : List UInt8) : List Int := runesN l.length l
/-- how many bytes at the beginning are a text. -/
def validN : Nat → List UInt8 → Nat
  | 0, _ => 0
  | n + 1, l => if l = [] then 0 else if okH l then (decodeL l).2 + validN n (l.drop (decodeL l).2) else 0
def validP (l : List UInt8) : Nat := validN l.length l
theorem drop_lt {l : List UInt8} (hne : l ≠ []) : (l.drop (decodeL l).2).length < l.length := by
  have := decodeL_width l
  have := List.length_pos_iff.2 hne
  rw [List.length_drop]
  omega
theorem runesN_fuel : ∀ (n m : Nat) (l : List UInt8), l.length ≤ n → l.length ≤ m → runesN n l = runesN m l
  | 0, 0, l, _, _ => rfl
  | 0, m + 1, l, h, _ => by
    obtain rfl := List.eq_nil_of_length_eq_zero (Nat.le_zero.1 h)
    rfl
  | n + 1, 0, l, _, h => by
    obtain rfl := List.eq_nil_of_length_eq_zero (Nat.le_zero.1 h)
    rfl
  | n + 1, m + 1, l, h1, h2 => by
    rw [runesN, runesN]
    split
    · rfl
    · rename_i hne
      have := drop_lt hne
      rw [runesN_fuel n m _ (by omega) (by omega)]
theorem validN_fuel : ∀ (n m : Nat) (l : List UInt8), l.length ≤ n → l.length ≤ m → validN n l = validN m l
  | 0, 0, l, _, _ => rfl
  | 0, m + 1, l, h, _ => by
    obtain rfl := List.eq_nil_of_length_eq_zero (Nat.le_zero.1 h)
    rfl
  | n + 1, 0, l, _, h => by
    obtain rfl := List.eq_nil_of_length_eq_zero (Nat.le_zero.1 h)
    rfl
  | n + 1, m + 1, l, h1, h2 => by
    rw [validN, validN]
    split
    · rfl
    · rename_i hne
      have := drop_lt hne
      rw [validN_fuel n m _ (by omega) (by omega)]
theorem runes_nil : runesF [] = [] := rfl
theorem runes_step (l : List UInt8) (hne : l ≠ []) : runesF l = ((decodeL l).1 : Int) :: runesF (l.drop (decodeL l).2) := by
  obtain ⟨n, hn⟩ : ∃ n, l.length = n + 1 := ⟨l.length - 1, by have := List.length_pos_iff.2 hne; omega⟩
  have hd := drop_lt hne
  unfold runesF
  rw [hn, runesN, if_neg hne, runesN_fuel n _ _ (by omega) (Nat.le_refl _)]
theorem validP_nil : validP [] = 0 := rfl
theorem validP_step (l : List UInt8) (hne : l ≠ []) (ok : okH l) : validP l = (decodeL l).2 + validP (l.drop (decodeL l).2) := by
  obtain ⟨n, hn⟩ : ∃ n, l.length = n + 1 := ⟨l.length - 1, by have := List.length_pos_iff.2 hne; omega⟩
  have hd := drop_lt hne
  unfold validP
  rw [hn, validN, if_neg hne, if_pos ok, validN_fuel n _ _ (by omega) (Nat.le_refl _)]
theorem validP_stop (l : List UInt8) (ok : ¬ okH l) : validP l = 0 := by
  unfold validP
  cases l with
  | nil => rfl
  | cons a t =>
    rw [List.length_cons, validN, if_neg (by simp), if_neg ok]
theorem validD_nil : validD [] = true := rfl
theorem validD_ok (l : List UInt8) (hne : l ≠ []) (ok : okH l) : validD l = validD (l.drop (decodeL l).2) := by
  rw [validD_step l hne, if_neg ok]
theorem validD_no (l : List UInt8) (hne : l ≠ []) (ok : ¬ okH l) : validD l = false := by
  rw [validD_step l hne, if_pos (Classical.not_not.1 ok)]
theorem encs_cons (r : Int) (rs : List Int) : encs (r :: rs) = encodeRune r ++ encs rs := rfl
theorem encs_app (a b : List Int) : encs (a ++ b) = encs a ++ encs b := by simp [encs]
theorem enc_ne (r : Int) (h : isR r = true) (t : List UInt8) : encodeRune r ++ t ≠ [] := by
  intro e
  have := (enc_len r h).1
  have e2 := congrArg List.length e
  simp only [List.length_append, List.length_nil] at e2
  omega
/-- a text is the bytes of its runes. -/
theorem runes_valid : ∀ (n : Nat) (l : List UInt8), l.length ≤ n → validD l = true → encs (runesF l) = l ∧ ∀ r ∈ runesF l, isR r = true
  | 0, l, h, _ => by
    obtain rfl := List.eq_nil_of_length_eq_zero (Nat.le_zero.1 h)
    exact ⟨rfl, fun r h => by simp [runes_nil] at h⟩
  | n + 1, l, h, hv => by
    by_cases hne : l = []
    · subst hne
      exact ⟨rfl, fun r h => by simp [runes_nil] at h⟩
    · by_cases ok : okH l
      · rw [validD_ok l hne ok] at hv
        have hd := drop_lt hne
        obtain ⟨e1, e2⟩ := runes_valid n _ (by omega) hv
        rw [runes_step l hne]
        refine ⟨?_, fun r hr => ?_⟩
        · rw [encs_cons, e1, ← dec_split l hne ok]
        · rcases List.mem_cons.1 hr with rfl | hr
          · exact dec_isR l ok
          · exact e2 r hr
      · rw [validD_no l hne ok] at hv
        cases hv
theorem valid_encs : ∀ (rs : List Int) (t : List UInt8), (∀ r ∈ rs, isR r = true) → validD (encs rs ++ t) = validD t ∧ runesF (encs rs ++ t) = rs ++ runesF t ∧ validP (encs rs ++ t) = (encs rs).length + validP t
  | [], t, _ => by simp [encs]
  | r :: rs, t, h => by
    have hr := h r (List.mem_cons_self ..)
    obtain ⟨e1, e2, e3⟩ := valid_encs rs t fun u hu => h u (List.mem_cons_of_mem _ hu)
    obtain ⟨d1, d2⟩ := dec_enc r hr (encs rs ++ t)
    have hne := enc_ne r hr (encs rs ++ t)
    have hdrop : (encodeRune r ++ (encs rs ++ t)).drop (encodeRune r).length = encs rs ++ t := List.drop_left
    have hr0 : 0 ≤ r := by simp only [isR, decide_eq_true_eq] at hr; omega
    rw [encs_cons, List.append_assoc]
    refine ⟨?_, ?_, ?_⟩
    · rw [validD_ok _ hne d2, d1, hdrop, e1]
    · rw [runes_step _ hne, d1, hdrop, e2]
      simp only [List.cons_append, List.cons.injEq, and_true]
      omega
    · rw [validP_step _ hne d2, d1, hdrop, e3, List.length_append]
      simp only
      omega
theorem encs_valid (rs : List Int) (h : ∀ r ∈ rs, isR r = true) : validD (encs rs) = true ∧ runesF (encs rs) = rs ∧ validP (encs rs) = (encs rs).length := by
  have := valid_encs rs [] h
  simp only [List.append_nil, validD_nil, runes_nil, validP_nil, Nat.add_zero] at this
  exact this
theorem valid_all (l : List UInt8) (h : validD l = true) : encs (runesF l) = l ∧ (∀ r ∈ runesF l, isR r = true) ∧ validP l = l.length := by
  obtain ⟨e1, e2⟩ := runes_valid l.length l (Nat.le_refl _) h
  refine ⟨e1, e2, ?_⟩
  have := (encs_valid _ e2).2.2
  rw [e1] at this
  exact this
/-- what Valid tells is a text, and what stands behind it begins with no rune. -/
theorem validP_front : ∀ (n : Nat) (l : List UInt8), l.length ≤ n → validP l ≤ l.length ∧ validD (l.take (validP l)) = true ∧ (validP l < l.length → ¬ okH (l.drop (validP l)))
  | 0, l, h => by
    obtain rfl := List.eq_nil_of_length_eq_zero (Nat.le_zero.1 h)
    exact ⟨Nat.le_refl _, rfl, fun h => absurd h (by simp [validP_nil])⟩
  | n + 1, l, h => by
    by_cases hne : l = []
    · subst hne
      exact ⟨Nat.le_refl _, rfl, fun h => absurd h (by simp [validP_nil])⟩
    · by_cases ok : okH l
      · have hd := drop_lt hne
        obtain ⟨k1, k2, k3⟩ := validP_front n (l.drop (decodeL l).2) (by omega)
        rw [validP_step l hne ok]
        have hle := decodeL_le l hne
        rw [List.length_drop] at k1 k3
        have e := encode_decode l hne ok
        refine ⟨by omega, ?_, fun hlt => ?_⟩
        · rw [List.take_add, ← e]
          have := (valid_encs [((decodeL l).1 : Int)] ((l.drop (decodeL l).2).take (validP (l.drop (decodeL l).2))) (fun r hr => by
            obtain rfl := List.mem_singleton.1 hr
            exact dec_isR l ok)).1
          simp only [encs, List.flatMap_cons, List.flatMap_nil, List.append_nil] at this
          rw [this]
          exact k2
        · have := k3 (by omega)
          rwa [List.drop_drop] at this
      · rw [validP_stop l ok]
        exact ⟨Nat.zero_le _, rfl, fun _ => by rw [List.drop_zero]; exact ok⟩
theorem validD_iff (l : List UInt8) : validD l = true ↔ validP l = l.length := by
  refine ⟨fun h => (valid_all l h).2.2, fun h => ?_⟩
  have := (validP_front l.length l (Nat.le_refl _)).2.1
  rw [h, List.take_length] at this
  exact this
end Go.Proofs.YtdeihlbnlogjcaaDoor.Ut
