/- The fronts and ends that two texts share: plain mathematics. The contracts of text's within, front, end. The contract of text's end. -/
import Derived.Test.YtdeihlbnlogjcaaDoorTexL
namespace Go.Proofs.YtdeihlbnlogjcaaDoor
open Go.RowKit Go.Lib Go.Shelf
set_option linter.unusedVariables false

/-- is there a byte of a rune, but not its first, at this place? -/
def contB (c : UInt8) : Bool := decide (c.toNat / 64 = 2)
def contL (L : List UInt8) (n : Nat) : Bool := match L[n]? with | some c => contB c | none => false
theorem enc_bytes (r : Int) (h : Ut.isR r = true) : ∀ j c, (encodeRune r)[j]? = some c → (contB c = true ↔ j ≠ 0) := by
  have key : ∀ j (x : Int), (encodeRuneZ r)[j]? = some x → 0 ≤ x ∧ x < 256 ∧ (x / 64 = 2 ↔ j ≠ 0) := by
    rcases Ut.enc_cases r h with ⟨h0, h1, e⟩ | ⟨h0, h1, e⟩ | ⟨h0, h1, h2, e⟩ | ⟨h0, h1, e⟩ <;> rw [e] <;> intro j x hx
    · match j, hx with
      | 0, hx => simp at hx; omega
      | j + 1, hx => simp at hx
    · match j, hx with
      | 0, hx => simp at hx; omega
      | 1, hx => simp at hx; omega
      | j + 2, hx => simp at hx
    · match j, hx with
      | 0, hx => simp at hx; omega
      | 1, hx => simp at hx; omega
      | 2, hx => simp at hx; omega
      | j + 3, hx => simp at hx
    · match j, hx with
      | 0, hx => simp at hx; omega
      | 1, hx => simp at hx; omega
      | 2, hx => simp at hx; omega
      | 3, hx => simp at hx; omega
      | j + 4, hx => simp at hx
  intro j c hc
  unfold encodeRune at hc
  rw [List.getElem?_map] at hc
  cases hz : (encodeRuneZ r)[j]? with
  | none => rw [hz] at hc; cases hc
  | some x =>
    rw [hz] at hc
    simp only [Option.map_some, Option.some.injEq] at hc
    obtain ⟨k0, k1, k2⟩ := key j x hz
    have := Ut.u8 x k0 k1
    rw [hc] at this
    unfold contB
    rw [decide_eq_true_eq, this, ← k2]
    omega
/-- a part of a rune is no text. -/
theorem part_no (r : Int) (h : Ut.isR r = true) (j : Nat) (h0 : 0 < j) (hj : j < (encodeRune r).length) : validD ((encodeRune r).take j) = false := by
  cases hv : validD ((encodeRune r).take j)
  · rfl
  · exfalso
    have hl : ((encodeRune r).take j).length = j := by rw [List.length_take]; omega
    have hne : (encodeRune r).take j ≠ [] := by
      intro e
      rw [e] at hl
      simp at hl
      omega
    by_cases ok : Ut.okH ((encodeRune r).take j)
    · have hsp := Ut.dec_split _ hne ok
      have hi := Ut.dec_isR _ ok
      obtain ⟨u, hu⟩ : ∃ u : Int, u = ((decodeL ((encodeRune r).take j)).1 : Int) := ⟨_, rfl⟩
      rw [← hu] at hsp hi
      have e := List.take_append_drop j (encodeRune r)
      rw [hsp, List.append_assoc] at e
      have d1 := (Ut.dec_enc r h []).1
      rw [List.append_nil] at d1
      have d2 := (Ut.dec_enc u hi ((List.drop (decodeL (List.take j (encodeRune r))).2 (List.take j (encodeRune r))) ++ List.drop j (encodeRune r))).1
      rw [e] at d2
      have hlen := (Prod.mk.inj (d2.symm.trans d1)).2
      have : (encodeRune u).length ≤ j := by
        rw [← hl]
        conv => rhs; rw [hsp]
        simp
      omega
    · rw [Ut.validD_no _ hne ok] at hv
      cases hv
/-- where a text may be cut. -/
theorem cont_iff : ∀ (rs : List Int), (∀ r ∈ rs, Ut.isR r = true) → ∀ n, n ≤ (Ut.encs rs).length → (contL (Ut.encs rs) n = false ↔ validD ((Ut.encs rs).take n) = true)
  | [], _, n, h => by
    simp [Ut.encs] at h
    subst h
    simp [Ut.encs, contL]
    rfl
  | r :: rs, hr, n, h => by
    have hi := hr r (List.mem_cons_self ..)
    have hl := Ut.enc_len r hi
    rw [Ut.encs_cons] at h ⊢
    rcases Nat.lt_or_ge n (encodeRune r).length with hn | hn
    · rw [List.take_append_of_le_length (by omega)]
      have hc : contL (encodeRune r ++ Ut.encs rs) n = decide (n ≠ 0) := by
        unfold contL
        rw [List.getElem?_append_left hn, List.getElem?_eq_getElem hn]
        have := enc_bytes r hi n _ (List.getElem?_eq_getElem hn)
        simp only
        rw [Bool.eq_iff_iff, this, decide_eq_true_eq]
      rw [hc]
      rcases Nat.eq_zero_or_pos n with h0 | h0
      · subst h0
        simp [Ut.validD_nil]
      · rw [part_no r hi n h0 hn]
        simp
        omega
    · have hc : contL (encodeRune r ++ Ut.encs rs) n = contL (Ut.encs rs) (n - (encodeRune r).length) := by
        unfold contL
        rw [List.getElem?_append_right hn]
      have hv : validD (encodeRune r) = true := by
        have := (Ut.encs_valid [r] (by simpa using hi)).1
        simpa [Ut.encs] using this
      rw [hc, List.take_append, List.take_of_length_le hn, valid_app _ _ hv]
      exact cont_iff rs (fun u hu => hr u (List.mem_cons_of_mem _ hu)) _ (by rw [List.length_append] at h; omega)
theorem cont_valid (L : List UInt8) (hv : validD L = true) (n : Nat) (hn : n ≤ L.length) : contL L n = false ↔ validD (L.take n) = true := by
  obtain ⟨k1, k2, -⟩ := Ut.valid_all L hv
  have := cont_iff (Ut.runesF L) k2 n (by rw [k1]; exact hn)
  rwa [k1] at this

/-! ### the bytes that two lists begin with -/
def comF : List UInt8 → List UInt8 → Nat
  | a :: l, b :: m => if a = b then comF l m + 1 else 0
  | _, _ => 0
theorem com_le : ∀ l m : List UInt8, comF l m ≤ l.length ∧ comF l m ≤ m.length
  | [], _ => ⟨Nat.zero_le _, Nat.zero_le _⟩
  | _ :: _, [] => ⟨Nat.zero_le _, Nat.zero_le _⟩
  | a :: l, b :: m => by
    have := com_le l m
    unfold comF
    split <;> simp <;> omega
theorem com_take : ∀ (l m : List UInt8) (k : Nat), k ≤ comF l m → l.take k = m.take k
  | [], m, k, h => by
    have : k = 0 := by simpa [comF] using h
    subst this
    simp
  | _ :: _, [], k, h => by
    have : k = 0 := by simpa [comF] using h
    subst this
    simp
  | a :: l, b :: m, 0, _ => by simp
  | a :: l, b :: m, k + 1, h => by
    unfold comF at h
    split at h
    · rename_i e
      rw [List.take_succ_cons, List.take_succ_cons, e, com_take l m k (by omega)]
    · omega
theorem com_get {l m : List UInt8} {k : Nat} (h : k < comF l m) : l[k]? = m[k]? := by
  have := com_take l m (k + 1) h
  have e1 : (l.take (k + 1))[k]? = l[k]? := List.getElem?_take_of_lt (Nat.lt_succ_self k)
  have e2 : (m.take (k + 1))[k]? = m[k]? := List.getElem?_take_of_lt (Nat.lt_succ_self k)
  rw [← e1, ← e2, this]
/-- how far they go, byte by byte. -/
theorem com_next : ∀ (l m : List UInt8) (k : Nat), k ≤ comF l m → (k < comF l m ↔ k < l.length ∧ k < m.length ∧ l[k]? = m[k]?)
  | [], m, k, h => by simp [comF]
  | _ :: _, [], k, h => by simp [comF]
  | a :: l, b :: m, 0, _ => by
    unfold comF
    by_cases e : a = b
    · rw [if_pos e]
      simp [e]
    · rw [if_neg e]
      simp [e]
  | a :: l, b :: m, k + 1, h => by
    unfold comF at h ⊢
    by_cases e : a = b
    · rw [if_pos e] at h ⊢
      have := com_next l m k (by omega)
      simp only [List.length_cons, List.getElem?_cons_succ]
      constructor
      · intro h1
        have := this.1 (by omega)
        exact ⟨by omega, by omega, this.2.2⟩
      · rintro ⟨a1, a2, a3⟩
        have := this.2 ⟨by omega, by omega, a3⟩
        omega
    · rw [if_neg e] at h
      omega
theorem com_mono {l m : List UInt8} {k : Nat} (h1 : k ≤ l.length) (h2 : k ≤ m.length) (h : l.take k = m.take k) : k ≤ comF l m := by
  induction l generalizing m k with
  | nil =>
    have : k = 0 := by simpa using h1
    omega
  | cons a l ih =>
    cases k with
    | zero => omega
    | succ k =>
      cases m with
      | nil => simp at h2
      | cons b m =>
        rw [List.take_succ_cons, List.take_succ_cons, List.cons.injEq] at h
        unfold comF
        rw [if_pos h.1]
        have := ih (m := m) (k := k) (by simpa using h1) (by simpa using h2) h.2
        omega
theorem com_self (l : List UInt8) : comF l l = l.length := Nat.le_antisymm (com_le l l).1 (com_mono (Nat.le_refl _) (Nat.le_refl _) rfl)

/-! ### back to where both may be cut -/
def backN (L M : List UInt8) : Nat → Nat
  | 0 => 0
  | n + 1 => if contL L (n + 1) || contL M (n + 1) then backN L M n else n + 1
def frontB (L M : List UInt8) : Nat := backN L M (comF L M)
theorem back_le (L M : List UInt8) : ∀ n, backN L M n ≤ n
  | 0 => Nat.le_refl _
  | n + 1 => by
    have := back_le L M n
    unfold backN
    split <;> omega
theorem cont_zero {L : List UInt8} (hv : validD L = true) : contL L 0 = false := (cont_valid L hv 0 (Nat.zero_le _)).2 (by simp [Ut.validD_nil])
theorem back_cut (L M : List UInt8) (hL : validD L = true) (hM : validD M = true) : ∀ n, contL L (backN L M n) = false ∧ contL M (backN L M n) = false
  | 0 => ⟨cont_zero hL, cont_zero hM⟩
  | n + 1 => by
    unfold backN
    split
    · exact back_cut L M hL hM n
    · rename_i h
      simp only [Bool.or_eq_true, not_or, Bool.not_eq_true] at h
      exact h
theorem back_max (L M : List UInt8) : ∀ n k, k ≤ n → contL L k = false → contL M k = false → k ≤ backN L M n
  | 0, k, h, _, _ => h
  | n + 1, k, h, h1, h2 => by
    unfold backN
    split
    · rename_i hc
      rcases Nat.lt_or_ge k (n + 1) with hk | hk
      · exact back_max L M n k (by omega) h1 h2
      · have : k = n + 1 := by omega
        subst this
        rw [h1, h2] at hc
        cases hc
    · exact h
/-- the front of both. -/
theorem front_spec (L M : List UInt8) (hL : validD L = true) (hM : validD M = true) :
    frontB L M ≤ L.length ∧ frontB L M ≤ M.length ∧ L.take (frontB L M) = M.take (frontB L M) ∧ validD (L.take (frontB L M)) = true ∧ validD (M.take (frontB L M)) = true := by
  have h1 := back_le L M (comF L M)
  have h2 := com_le L M
  have h3 := back_cut L M hL hM (comF L M)
  have h4 : frontB L M ≤ comF L M := h1
  have a1 : frontB L M ≤ L.length := by omega
  have a2 : frontB L M ≤ M.length := by omega
  exact ⟨a1, a2, com_take L M _ h4, (cont_valid L hL _ a1).1 h3.1, (cont_valid M hM _ a2).1 h3.2⟩
theorem front_max (L M : List UInt8) (hL : validD L = true) (hM : validD M = true) (k : Nat) (h1 : k ≤ L.length) (h2 : k ≤ M.length) (h : L.take k = M.take k) (v : validD (L.take k) = true) : k ≤ frontB L M :=
  back_max L M _ k (com_mono h1 h2 h) ((cont_valid L hL k h1).2 v) ((cont_valid M hM k h2).2 (h ▸ v))
theorem front_self (L : List UInt8) (hL : validD L = true) : frontB L L = L.length :=
  Nat.le_antisymm (front_spec L L hL hL).1 (front_max L L hL hL _ (Nat.le_refl _) (Nat.le_refl _) rfl (by rw [List.take_length]; exact hL))

/-! ### the bytes that two lists end with -/
def comE (L M : List UInt8) : Nat := comF L.reverse M.reverse
def backE (L : List UInt8) : Nat → Nat
  | 0 => 0
  | n + 1 => if contL L (L.length - (n + 1)) then backE L n else n + 1
def endB (L M : List UInt8) : Nat := backE L (comE L M)
theorem backE_le (L : List UInt8) : ∀ n, backE L n ≤ n
  | 0 => Nat.le_refl _
  | n + 1 => by
    have := backE_le L n
    unfold backE
    split <;> omega
theorem cont_len (L : List UInt8) : contL L L.length = false := by
  unfold contL
  rw [List.getElem?_eq_none (Nat.le_refl _)]
theorem backE_cut (L : List UInt8) : ∀ n, contL L (L.length - backE L n) = false
  | 0 => cont_len L
  | n + 1 => by
    unfold backE
    split
    · exact backE_cut L n
    · rename_i h
      simpa using h
theorem backE_max (L : List UInt8) : ∀ n k, k ≤ n → contL L (L.length - k) = false → k ≤ backE L n
  | 0, k, h, _ => h
  | n + 1, k, h, h1 => by
    unfold backE
    split
    · rename_i hc
      rcases Nat.lt_or_ge k (n + 1) with hk | hk
      · exact backE_max L n k (by omega) h1
      · have : k = n + 1 := by omega
        subst this
        rw [h1] at hc
        cases hc
    · exact h
theorem end_spec (L M : List UInt8) (hL : validD L = true) :
    endB L M ≤ L.length ∧ endB L M ≤ M.length ∧ L.drop (L.length - endB L M) = M.drop (M.length - endB L M) ∧ validD (L.take (L.length - endB L M)) = true := by
  have h1 := backE_le L (comE L M)
  have h2 := com_le L.reverse M.reverse
  rw [List.length_reverse, List.length_reverse] at h2
  have h4 : endB L M ≤ comE L M := h1
  have h5 : comE L M = comF L.reverse M.reverse := rfl
  have a1 : endB L M ≤ L.length := by omega
  have a2 : endB L M ≤ M.length := by omega
  have h6 := com_take L.reverse M.reverse (endB L M) (by omega)
  rw [List.take_reverse, List.take_reverse] at h6
  exact ⟨a1, a2, List.reverse_inj.1 h6, (cont_valid L hL _ (by omega)).1 (backE_cut L _)⟩
theorem end_max (L M : List UInt8) (hL : validD L = true) (k : Nat) (h1 : k ≤ L.length) (h2 : k ≤ M.length) (h : L.drop (L.length - k) = M.drop (M.length - k)) (v : validD (L.take (L.length - k)) = true) : k ≤ endB L M := by
  refine backE_max L _ k (com_mono (by simpa using h1) (by simpa using h2) ?_) ((cont_valid L hL _ (by omega)).2 v)
  rw [List.take_reverse, List.take_reverse, h]
end Go.Proofs.YtdeihlbnlogjcaaDoor
namespace Go.Proofs.YtdeihlbnlogjcaaDoor
open Go.RowKit Go.Lib Go.Shelf
set_option maxRecDepth 100000
set_option linter.unusedVariables false

theorem within_any (c : UInt8) (w : World) : Calls Tryd.prog 81 #[.int .u8 (c.toNat : Nat)] w fun e w' => e = .returned (.bool (contB c)) ∧ w = w' := by
  have h := c.toNat_lt
  have HC := Lib.hid (show contB c = (((c.toNat : Nat) : Int) / 64 == 2) by
    unfold contB
    rw [Bool.eq_iff_iff, decide_eq_true_eq, beq_iff_eq]
    omega)
  go_enter Tryd.func81, Tryd.ntmps81
  go_wp2
  go_ret
  exact ⟨by rw [HC.out]; rfl, rfl⟩
theorem get_str (s : ByteArray) (k : Nat) (h : k < s.size) : s.data.toList[k]? = some s[k] := by
  have hk : k < s.data.toList.length := by simpa using h
  rw [List.getElem?_eq_getElem hk]
  rfl
theorem cont_str (s : ByteArray) (k : Nat) (h : k < s.size) : contL s.data.toList k = contB s[k] := by
  unfold contL
  rw [get_str s k h]
theorem backN_stop {L M : List UInt8} {k : Nat} (h1 : contL L k = false) (h2 : contL M k = false) : backN L M k = k := by
  cases k with
  | zero => rfl
  | succ k =>
    unfold backN
    rw [h1, h2]
    rfl
theorem backN_step {L M : List UInt8} {k : Nat} (h : contL L (k + 1) = true ∨ contL M (k + 1) = true) : backN L M (k + 1) = backN L M k := by
  conv => lhs; unfold backN
  rcases h with h | h <;> simp [h]
theorem cont_lt {s : ByteArray} {k : Nat} (h : contL s.data.toList k = true) : k < s.size := by
  unfold contL at h
  rcases Nat.lt_or_ge k s.data.toList.length with hk | hk
  · simpa using hk
  · rw [List.getElem?_eq_none hk] at h
    cases h
theorem within_of (s : ByteArray) (k : Nat) (h : k < s.size) (b : Bool) (hb : contL s.data.toList k = b) (W : World) : Calls Tryd.prog 81 #[.int .u8 (s[k].toNat : Nat)] W fun e w' => e = .returned (.bool b) ∧ W = w' := by
  have := within_any s[k] W
  rw [← cont_str s k h, hb] at this
  exact this
set_option maxHeartbeats 1500000 in
theorem front_any (s t : ByteArray) (w : World) (hs : s.size ≤ 1099511627) (ht : t.size ≤ 1099511627) (vs_ : validD s.data.toList = true) (vt : validD t.data.toList = true) :
    Calls Tryd.prog 68 #[.string s, .string t] w fun e w' => e = .returned (.int .i64 (frontB s.data.toList t.data.toList : Nat)) ∧ DrewQ w w' := by
  obtain ⟨C, hC⟩ : ∃ C, C = comF s.data.toList t.data.toList := ⟨_, rfl⟩
  have hle := com_le s.data.toList t.data.toList
  rw [← hC, show s.data.toList.length = s.size by simp, show t.data.toList.length = t.size by simp] at hle
  obtain ⟨hc1, hc2⟩ := hle
  have HN := Lib.hid (show ∀ k, k ≤ C → (k < C ↔ k < s.size ∧ k < t.size ∧ s.data.toList[k]? = t.data.toList[k]?) from fun k hk => by
    have := com_next s.data.toList t.data.toList k (hC ▸ hk)
    rw [← hC, show s.data.toList.length = s.size by simp, show t.data.toList.length = t.size by simp] at this
    exact this)
  obtain ⟨F, hF⟩ : ∃ F, F = frontB s.data.toList t.data.toList := ⟨_, rfl⟩
  have HF := Lib.hid (show F = backN s.data.toList t.data.toList C by rw [hF, hC]; rfl)
  rw [← hF]
  have HZ := Lib.hid (And.intro (cont_zero vs_) (cont_zero vt))
  clear hC hF vs_ vt
  go_enter Tryd.func68, Tryd.ntmps68
  go_wp2
  go_loopw [5] (fun i wr => ∃ k : Nat, k ≤ C ∧ i = .int .i64 k ∧ RowKit.Hid (DrewQ w wr)) (fun i _ => C + 1 - (RowKit.intOf i).toNat)
  case atStart => exact ⟨0, by omega, rfl, DrewQ.refl w⟩
  case round =>
    obtain ⟨k, hk, rfl, HD⟩ := hrel
    have hks : k ≤ s.size := by omega
    have hkt : k ≤ t.size := by omega
    by_cases hkC : k < C
    · obtain ⟨h1, h2, h3⟩ := (HN.out k hk).1 hkC
      have hi1 : (k : Int) < s.size := by omega
      have hi2 : (k : Int) < t.size := by omega
      rw [get_str s k h1, get_str t k h2, Option.some.injEq] at h3
      have hb : (((s[k].toNat : Nat) : Int) == ((t[k].toNat : Nat) : Int)) = true := by rw [h3]; simp
      clear h3
      go_wp2
      go_quiet (fail)
      go_wp2
      go_roundw
      case rel => exact ⟨k + 1, by omega, by go_num, HD.out.more _⟩
      case measure => (simp [RowKit.intOf] <;> omega)
    · have HKC := Lib.hid (show k = C by omega)
      have hno : ¬ (k < s.size ∧ k < t.size ∧ s.data.toList[k]? = t.data.toList[k]?) := fun h => hkC ((HN.out k hk).2 h)
      have h3 : k ≥ s.size ∨ (k < s.size ∧ k ≥ t.size) ∨ ∃ (h1 : k < s.size) (h2 : k < t.size), (((s[k].toNat : Nat) : Int) == ((t[k].toNat : Nat) : Int)) = false := by
        rcases Nat.lt_or_ge k s.size with h1 | h1
        · rcases Nat.lt_or_ge k t.size with h2 | h2
          · right; right
            refine ⟨h1, h2, ?_⟩
            cases hb : (((s[k].toNat : Nat) : Int) == ((t[k].toNat : Nat) : Int))
            · rfl
            · exfalso
              refine hno ⟨h1, h2, ?_⟩
              rw [get_str s k h1, get_str t k h2]
              have := beq_iff_eq.1 hb
              rw [UInt8.toNat_inj.1 (by omega : s[k].toNat = t[k].toNat)]
          · exact .inr (.inl ⟨h1, h2⟩)
        · exact .inl h1
      clear hkC hno
      rcases h3 with h1 | ⟨h1, h2⟩ | ⟨h1, h2, hb⟩
      · have hi1 : decide ((k : Int) < s.size) = false := decide_eq_false (by omega)
        have hi1' : decide (k < s.size) = false := decide_eq_false (by omega)
        go_wp2
        go_quiet (fail)
        go_wp2
        go_loopw [5] (fun i wr => ∃ j : Nat, j ≤ C ∧ i = .int .i64 j ∧ RowKit.Hid (F = backN s.data.toList t.data.toList j) ∧ RowKit.Hid (DrewQ w wr)) (fun i _ => (RowKit.intOf i).toNat)
        case atStart => exact ⟨k, hk, rfl, by rw [HF.out, HKC.out]; rfl, HD.out.more _⟩
        case round =>
          obtain ⟨j, hj, rfl, HJ, HD2⟩ := hrel
          have hjs : j ≤ s.size := by omega
          have hjt : j ≤ t.size := by omega
          cases hA : contL s.data.toList j
          · have HA := Lib.hid hA
            cases hB : contL t.data.toList j
            · have HR := Lib.hid (HJ.out.trans (backN_stop hA hB))
              have HB := Lib.hid hB
              clear hA hB
              by_cases g1 : j < s.size
              · have gi1 : (j : Int) < s.size := by omega
                have HW1 := Lib.hid (within_of s j g1 false HA.out)
                by_cases g2 : j < t.size
                · have gi2 : (j : Int) < t.size := by omega
                  have HW2 := Lib.hid (within_of t j g2 false HB.out)
                  go_wp2_with (first | (go_at_call 81; with_reducible (first | refine (HW1.out _).mono ?_ | refine (HW2.out _).mono ?_); rintro e x2 ⟨rfl, rfl⟩))
                  go_ret
                  exact ⟨by rw [HR.out]; rfl, HD2.out⟩
                · have gi2 : ¬ (j : Int) < t.size := by omega
                  go_wp2_with (first | (go_at_call 81; with_reducible (refine (HW1.out _).mono ?_); rintro e x2 ⟨rfl, rfl⟩))
                  go_ret
                  exact ⟨by rw [HR.out]; rfl, HD2.out⟩
              · have gi1 : ¬ (j : Int) < s.size := by omega
                by_cases g2 : j < t.size
                · have gi2 : (j : Int) < t.size := by omega
                  have HW2 := Lib.hid (within_of t j g2 false HB.out)
                  go_wp2_with (first | (go_at_call 81; with_reducible (refine (HW2.out _).mono ?_); rintro e x2 ⟨rfl, rfl⟩))
                  go_ret
                  exact ⟨by rw [HR.out]; rfl, HD2.out⟩
                · have gi2 : ¬ (j : Int) < t.size := by omega
                  go_wp2
                  go_ret
                  exact ⟨by rw [HR.out]; rfl, HD2.out⟩
            · have g2 := cont_lt hB
              have gi2 : (j : Int) < t.size := by omega
              have HW2 := Lib.hid (within_of t j g2 true hB)
              obtain ⟨i, rfl⟩ : ∃ i, j = i + 1 := ⟨j - 1, by
                rcases Nat.eq_zero_or_pos j with h | h
                · subst h
                  have := HZ.out.2
                  rw [hB] at this
                  cases this
                · omega⟩
              have HR := Lib.hid (HJ.out.trans (backN_step (.inr hB)))
              clear hA hB
              by_cases g1 : i + 1 < s.size
              · have gi1 : ((i + 1 : Nat) : Int) < s.size := by omega
                have HW1 := Lib.hid (within_of s (i + 1) g1 false HA.out)
                go_wp2_with (first | (go_at_call 81; with_reducible (first | refine (HW1.out _).mono ?_ | refine (HW2.out _).mono ?_); rintro e x2 ⟨rfl, rfl⟩))
                go_roundw
                case rel => exact ⟨i, by omega, by go_num, HR.out, HD2.out⟩
                case measure => (simp [RowKit.intOf] <;> omega)
              · have gi1 : ¬ ((i + 1 : Nat) : Int) < s.size := by omega
                go_wp2_with (first | (go_at_call 81; with_reducible (refine (HW2.out _).mono ?_); rintro e x2 ⟨rfl, rfl⟩))
                all_goals
                  go_roundw
                  case rel => exact ⟨i, by omega, by go_num, HR.out, HD2.out⟩
                  case measure => (simp [RowKit.intOf] <;> omega)
          · have g1 := cont_lt hA
            have gi1 : (j : Int) < s.size := by omega
            have HW1 := Lib.hid (within_of s j g1 true hA)
            obtain ⟨i, rfl⟩ : ∃ i, j = i + 1 := ⟨j - 1, by
              rcases Nat.eq_zero_or_pos j with h | h
              · subst h
                have := HZ.out.1
                rw [hA] at this
                cases this
              · omega⟩
            have HR := Lib.hid (HJ.out.trans (backN_step (.inl hA)))
            clear hA
            go_wp2_with (first | (go_at_call 81; with_reducible (refine (HW1.out _).mono ?_); rintro e x2 ⟨rfl, rfl⟩))
            go_roundw
            case rel => exact ⟨i, by omega, by go_num, HR.out, HD2.out⟩
            case measure => (simp [RowKit.intOf] <;> omega)
      · have hi1 : (k : Int) < s.size := by omega
        have hi2 : decide ((k : Int) < t.size) = false := decide_eq_false (by omega)
        have hi2' : decide (k < t.size) = false := decide_eq_false (by omega)
        go_wp2
        go_quiet (fail)
        go_wp2
        go_loopw [5] (fun i wr => ∃ j : Nat, j ≤ C ∧ i = .int .i64 j ∧ RowKit.Hid (F = backN s.data.toList t.data.toList j) ∧ RowKit.Hid (DrewQ w wr)) (fun i _ => (RowKit.intOf i).toNat)
        case atStart => exact ⟨k, hk, rfl, by rw [HF.out, HKC.out]; rfl, HD.out.more _⟩
        case round =>
          obtain ⟨j, hj, rfl, HJ, HD2⟩ := hrel
          have hjs : j ≤ s.size := by omega
          have hjt : j ≤ t.size := by omega
          cases hA : contL s.data.toList j
          · have HA := Lib.hid hA
            cases hB : contL t.data.toList j
            · have HR := Lib.hid (HJ.out.trans (backN_stop hA hB))
              have HB := Lib.hid hB
              clear hA hB
              by_cases g1 : j < s.size
              · have gi1 : (j : Int) < s.size := by omega
                have HW1 := Lib.hid (within_of s j g1 false HA.out)
                by_cases g2 : j < t.size
                · have gi2 : (j : Int) < t.size := by omega
                  have HW2 := Lib.hid (within_of t j g2 false HB.out)
                  go_wp2_with (first | (go_at_call 81; with_reducible (first | refine (HW1.out _).mono ?_ | refine (HW2.out _).mono ?_); rintro e x2 ⟨rfl, rfl⟩))
                  go_ret
                  exact ⟨by rw [HR.out]; rfl, HD2.out⟩
                · have gi2 : ¬ (j : Int) < t.size := by omega
                  go_wp2_with (first | (go_at_call 81; with_reducible (refine (HW1.out _).mono ?_); rintro e x2 ⟨rfl, rfl⟩))
                  go_ret
                  exact ⟨by rw [HR.out]; rfl, HD2.out⟩
              · have gi1 : ¬ (j : Int) < s.size := by omega
                by_cases g2 : j < t.size
                · have gi2 : (j : Int) < t.size := by omega
                  have HW2 := Lib.hid (within_of t j g2 false HB.out)
                  go_wp2_with (first | (go_at_call 81; with_reducible (refine (HW2.out _).mono ?_); rintro e x2 ⟨rfl, rfl⟩))
                  go_ret
                  exact ⟨by rw [HR.out]; rfl, HD2.out⟩
                · have gi2 : ¬ (j : Int) < t.size := by omega
                  go_wp2
                  go_ret
                  exact ⟨by rw [HR.out]; rfl, HD2.out⟩
            · have g2 := cont_lt hB
              have gi2 : (j : Int) < t.size := by omega
              have HW2 := Lib.hid (within_of t j g2 true hB)
              obtain ⟨i, rfl⟩ : ∃ i, j = i + 1 := ⟨j - 1, by
                rcases Nat.eq_zero_or_pos j with h | h
                · subst h
                  have := HZ.out.2
                  rw [hB] at this
                  cases this
                · omega⟩
              have HR := Lib.hid (HJ.out.trans (backN_step (.inr hB)))
              clear hA hB
              by_cases g1 : i + 1 < s.size
              · have gi1 : ((i + 1 : Nat) : Int) < s.size := by omega
                have HW1 := Lib.hid (within_of s (i + 1) g1 false HA.out)
                go_wp2_with (first | (go_at_call 81; with_reducible (first | refine (HW1.out _).mono ?_ | refine (HW2.out _).mono ?_); rintro e x2 ⟨rfl, rfl⟩))
                go_roundw
                case rel => exact ⟨i, by omega, by go_num, HR.out, HD2.out⟩
                case measure => (simp [RowKit.intOf] <;> omega)
              · have gi1 : ¬ ((i + 1 : Nat) : Int) < s.size := by omega
                go_wp2_with (first | (go_at_call 81; with_reducible (refine (HW2.out _).mono ?_); rintro e x2 ⟨rfl, rfl⟩))
                all_goals
                  go_roundw
                  case rel => exact ⟨i, by omega, by go_num, HR.out, HD2.out⟩
                  case measure => (simp [RowKit.intOf] <;> omega)
          · have g1 := cont_lt hA
            have gi1 : (j : Int) < s.size := by omega
            have HW1 := Lib.hid (within_of s j g1 true hA)
            obtain ⟨i, rfl⟩ : ∃ i, j = i + 1 := ⟨j - 1, by
              rcases Nat.eq_zero_or_pos j with h | h
              · subst h
                have := HZ.out.1
                rw [hA] at this
                cases this
              · omega⟩
            have HR := Lib.hid (HJ.out.trans (backN_step (.inl hA)))
            clear hA
            go_wp2_with (first | (go_at_call 81; with_reducible (refine (HW1.out _).mono ?_); rintro e x2 ⟨rfl, rfl⟩))
            go_roundw
            case rel => exact ⟨i, by omega, by go_num, HR.out, HD2.out⟩
            case measure => (simp [RowKit.intOf] <;> omega)
      · have hi1 : (k : Int) < s.size := by omega
        have hi2 : (k : Int) < t.size := by omega
        go_wp2
        go_quiet (fail)
        go_wp2
        go_loopw [5] (fun i wr => ∃ j : Nat, j ≤ C ∧ i = .int .i64 j ∧ RowKit.Hid (F = backN s.data.toList t.data.toList j) ∧ RowKit.Hid (DrewQ w wr)) (fun i _ => (RowKit.intOf i).toNat)
        case atStart => exact ⟨k, hk, rfl, by rw [HF.out, HKC.out]; rfl, HD.out.more _⟩
        case round =>
          obtain ⟨j, hj, rfl, HJ, HD2⟩ := hrel
          have hjs : j ≤ s.size := by omega
          have hjt : j ≤ t.size := by omega
          cases hA : contL s.data.toList j
          · have HA := Lib.hid hA
            cases hB : contL t.data.toList j
            · have HR := Lib.hid (HJ.out.trans (backN_stop hA hB))
              have HB := Lib.hid hB
              clear hA hB
              by_cases g1 : j < s.size
              · have gi1 : (j : Int) < s.size := by omega
                have HW1 := Lib.hid (within_of s j g1 false HA.out)
                by_cases g2 : j < t.size
                · have gi2 : (j : Int) < t.size := by omega
                  have HW2 := Lib.hid (within_of t j g2 false HB.out)
                  go_wp2_with (first | (go_at_call 81; with_reducible (first | refine (HW1.out _).mono ?_ | refine (HW2.out _).mono ?_); rintro e x2 ⟨rfl, rfl⟩))
                  go_ret
                  exact ⟨by rw [HR.out]; rfl, HD2.out⟩
                · have gi2 : ¬ (j : Int) < t.size := by omega
                  go_wp2_with (first | (go_at_call 81; with_reducible (refine (HW1.out _).mono ?_); rintro e x2 ⟨rfl, rfl⟩))
                  go_ret
                  exact ⟨by rw [HR.out]; rfl, HD2.out⟩
              · have gi1 : ¬ (j : Int) < s.size := by omega
                by_cases g2 : j < t.size
                · have gi2 : (j : Int) < t.size := by omega
                  have HW2 := Lib.hid (within_of t j g2 false HB.out)
                  go_wp2_with (first | (go_at_call 81; with_reducible (refine (HW2.out _).mono ?_); rintro e x2 ⟨rfl, rfl⟩))
                  go_ret
                  exact ⟨by rw [HR.out]; rfl, HD2.out⟩
                · have gi2 : ¬ (j : Int) < t.size := by omega
                  go_wp2
                  go_ret
                  exact ⟨by rw [HR.out]; rfl, HD2.out⟩
            · have g2 := cont_lt hB
              have gi2 : (j : Int) < t.size := by omega
              have HW2 := Lib.hid (within_of t j g2 true hB)
              obtain ⟨i, rfl⟩ : ∃ i, j = i + 1 := ⟨j - 1, by
                rcases Nat.eq_zero_or_pos j with h | h
                · subst h
                  have := HZ.out.2
                  rw [hB] at this
                  cases this
                · omega⟩
              have HR := Lib.hid (HJ.out.trans (backN_step (.inr hB)))
              clear hA hB
              by_cases g1 : i + 1 < s.size
              · have gi1 : ((i + 1 : Nat) : Int) < s.size := by omega
                have HW1 := Lib.hid (within_of s (i + 1) g1 false HA.out)
                go_wp2_with (first | (go_at_call 81; with_reducible (first | refine (HW1.out _).mono ?_ | refine (HW2.out _).mono ?_); rintro e x2 ⟨rfl, rfl⟩))
                go_roundw
                case rel => exact ⟨i, by omega, by go_num, HR.out, HD2.out⟩
                case measure => (simp [RowKit.intOf] <;> omega)
              · have gi1 : ¬ ((i + 1 : Nat) : Int) < s.size := by omega
                go_wp2_with (first | (go_at_call 81; with_reducible (refine (HW2.out _).mono ?_); rintro e x2 ⟨rfl, rfl⟩))
                all_goals
                  go_roundw
                  case rel => exact ⟨i, by omega, by go_num, HR.out, HD2.out⟩
                  case measure => (simp [RowKit.intOf] <;> omega)
          · have g1 := cont_lt hA
            have gi1 : (j : Int) < s.size := by omega
            have HW1 := Lib.hid (within_of s j g1 true hA)
            obtain ⟨i, rfl⟩ : ∃ i, j = i + 1 := ⟨j - 1, by
              rcases Nat.eq_zero_or_pos j with h | h
              · subst h
                have := HZ.out.1
                rw [hA] at this
                cases this
              · omega⟩
            have HR := Lib.hid (HJ.out.trans (backN_step (.inl hA)))
            clear hA
            go_wp2_with (first | (go_at_call 81; with_reducible (refine (HW1.out _).mono ?_); rintro e x2 ⟨rfl, rfl⟩))
            go_roundw
            case rel => exact ⟨i, by omega, by go_num, HR.out, HD2.out⟩
            case measure => (simp [RowKit.intOf] <;> omega)
end Go.Proofs.YtdeihlbnlogjcaaDoor
namespace Go.Proofs.YtdeihlbnlogjcaaDoor
open Go.RowKit Go.Lib Go.Shelf
set_option maxRecDepth 100000
set_option linter.unusedVariables false

theorem backE_stop {L : List UInt8} {k : Nat} (h : contL L (L.length - k) = false) : backE L k = k := by
  cases k with
  | zero => rfl
  | succ k =>
    unfold backE
    rw [h]
    rfl
theorem backE_step {L : List UInt8} {k : Nat} (h : contL L (L.length - (k + 1)) = true) : backE L (k + 1) = backE L k := by
  conv => lhs; unfold backE
  simp [h]
theorem get_rev (s : ByteArray) (k : Nat) (h : k < s.size) : s.data.toList.reverse[k]? = some (s[s.size - 1 - k]'(by omega)) := by
  have hl : s.data.toList.length = s.size := by simp
  rw [List.getElem?_reverse (by omega), hl, get_str s _ (by omega)]
set_option maxHeartbeats 1500000 in
theorem end_any (s t : ByteArray) (w : World) (hs : s.size ≤ 1099511627) (ht : t.size ≤ 1099511627) :
    Calls Tryd.prog 69 #[.string s, .string t] w fun e w' => e = .returned (.int .i64 (endB s.data.toList t.data.toList : Nat)) ∧ ∃ q, w' = w.drewN q := by
  obtain ⟨C, hC⟩ : ∃ C, C = comE s.data.toList t.data.toList := ⟨_, rfl⟩
  have hle := com_le s.data.toList.reverse t.data.toList.reverse
  have hCC : comF s.data.toList.reverse t.data.toList.reverse = C := by rw [hC]; rfl
  rw [hCC, List.length_reverse, List.length_reverse, show s.data.toList.length = s.size by simp, show t.data.toList.length = t.size by simp] at hle
  obtain ⟨hc1, hc2⟩ := hle
  have HN := Lib.hid (show ∀ k, k ≤ C → (k < C ↔ k < s.size ∧ k < t.size ∧ s.data.toList.reverse[k]? = t.data.toList.reverse[k]?) from fun k hk => by
    have := com_next s.data.toList.reverse t.data.toList.reverse k (by rw [hCC]; exact hk)
    rw [hCC, List.length_reverse, List.length_reverse, show s.data.toList.length = s.size by simp, show t.data.toList.length = t.size by simp] at this
    exact this)
  obtain ⟨F, hF⟩ : ∃ F, F = endB s.data.toList t.data.toList := ⟨_, rfl⟩
  have HF := Lib.hid (show F = backE s.data.toList C by rw [hF, hC]; rfl)
  have HL := Lib.hid (show s.data.toList.length = s.size by simp)
  rw [← hF]
  clear hC hF hCC
  go_enter Tryd.func69, Tryd.ntmps69
  go_wp2
  go_loopw [5] (fun i wr => ∃ k : Nat, k ≤ C ∧ i = .int .i64 k ∧ RowKit.Hid (DrewQ w wr)) (fun i _ => C + 1 - (RowKit.intOf i).toNat)
  case atStart => exact ⟨0, by omega, rfl, DrewQ.refl w⟩
  case round =>
    obtain ⟨k, hk, rfl, HD⟩ := hrel
    have hks : k ≤ s.size := by omega
    have hkt : k ≤ t.size := by omega
    by_cases hkC : k < C
    · obtain ⟨h1, h2, h3⟩ := (HN.out k hk).1 hkC
      have hi1 : (k : Int) < s.size := by omega
      have hi2 : (k : Int) < t.size := by omega
      rw [get_rev s k h1, get_rev t k h2, Option.some.injEq] at h3
      obtain ⟨a, ha⟩ : ∃ a : Nat, a = s.size - 1 - k := ⟨_, rfl⟩
      obtain ⟨b, hb0⟩ : ∃ a : Nat, a = t.size - 1 - k := ⟨_, rfl⟩
      have ha1 : (s.size : Int) - 1 - k = a := by omega
      have hb1 : (t.size : Int) - 1 - k = b := by omega
      have ha2 : a < s.size := by omega
      have hb2 : b < t.size := by omega
      have ha3 : (a : Int) < s.size := by omega
      have hb3 : (b : Int) < t.size := by omega
      have hb : (((s[a].toNat : Nat) : Int) == ((t[b].toNat : Nat) : Int)) = true := by
        subst ha hb0
        rw [h3]
        simp
      clear ha hb0
      clear h3
      go_wp2
      go_quiet (fail)
      go_wp2
      go_roundw
      case rel => exact ⟨k + 1, by omega, by go_num, HD.out.more _⟩
      case measure => simp [RowKit.intOf]; omega
    · have HKC := Lib.hid (show k = C by omega)
      have hno : ¬ (k < s.size ∧ k < t.size ∧ s.data.toList.reverse[k]? = t.data.toList.reverse[k]?) := fun h => hkC ((HN.out k hk).2 h)
      rcases Nat.lt_or_ge k s.size with h1 | h1
      · rcases Nat.lt_or_ge k t.size with h2 | h2
        · have h3 : ¬ s.data.toList.reverse[k]? = t.data.toList.reverse[k]? := fun h => hno ⟨h1, h2, h⟩
          rw [get_rev s k h1, get_rev t k h2, Option.some.injEq] at h3
          have hi1 : (k : Int) < s.size := by omega
          have hi2 : (k : Int) < t.size := by omega
          obtain ⟨a, ha⟩ : ∃ a : Nat, a = s.size - 1 - k := ⟨_, rfl⟩
          obtain ⟨b, hb0⟩ : ∃ a : Nat, a = t.size - 1 - k := ⟨_, rfl⟩
          have ha1 : (s.size : Int) - 1 - k = a := by omega
          have hb1 : (t.size : Int) - 1 - k = b := by omega
          have ha2 : a < s.size := by omega
          have hb2 : b < t.size := by omega
          have ha3 : (a : Int) < s.size := by omega
          have hb3 : (b : Int) < t.size := by omega
          have hb : (((s[a].toNat : Nat) : Int) == ((t[b].toNat : Nat) : Int)) = false := by
            cases hb : (((s[a].toNat : Nat) : Int) == ((t[b].toNat : Nat) : Int))
            · rfl
            · exfalso
              refine h3 ?_
              subst ha hb0
              have := beq_iff_eq.1 hb
              exact UInt8.toNat_inj.1 (by omega)
          clear ha hb0 h3 hno hkC
          go_wp2
          go_quiet (fail)
          go_wp2
          go_loopw [5] (fun i wr => ∃ j : Nat, j ≤ C ∧ i = .int .i64 j ∧ RowKit.Hid (F = backE s.data.toList j) ∧ RowKit.Hid (DrewQ w wr)) (fun i _ => (RowKit.intOf i).toNat)
          case atStart => exact ⟨k, hk, rfl, by rw [HF.out, HKC.out]; rfl, HD.out.more _⟩
          case round =>
            obtain ⟨j, hj, rfl, HJ, HD2⟩ := hrel
            by_cases hj0 : j = 0
            · subst hj0
              have HR := Lib.hid (show F = 0 from HJ.out)
              go_wp2
              go_ret
              exact ⟨by rw [HR.out]; rfl, HD2.out⟩
            · have hjp : (j : Int) > 0 := by omega
              obtain ⟨i, rfl⟩ : ∃ i, j = i + 1 := ⟨j - 1, by omega⟩
              obtain ⟨a, ha⟩ : ∃ a : Nat, a = s.size - (i + 1) := ⟨_, rfl⟩
              have ha1 : (s.size : Int) - ((i + 1 : Nat) : Int) = a := by omega
              have ha1' : (s.size : Int) - ((i : Int) + 1) = a := by omega
              have ha2 : a < s.size := by omega
              have ha3 : (a : Int) < s.size := by omega
              cases hA : contL s.data.toList a
              · have HW1 := Lib.hid (within_of s a ha2 false hA)
                have HR := Lib.hid (show F = i + 1 from HJ.out.trans (backE_stop (by rw [HL.out, ← ha]; exact hA)))
                clear hA ha
                go_wp2_with (first | (go_at_call 81; with_reducible (refine (HW1.out _).mono ?_); rintro e x2 ⟨rfl, rfl⟩))
                go_ret
                exact ⟨by rw [HR.out]; rfl, HD2.out⟩
              · have HW1 := Lib.hid (within_of s a ha2 true hA)
                have HR := Lib.hid (HJ.out.trans (backE_step (by rw [HL.out, ← ha]; exact hA)))
                clear hA ha
                go_wp2_with (first | (go_at_call 81; with_reducible (refine (HW1.out _).mono ?_); rintro e x2 ⟨rfl, rfl⟩))
                go_roundw
                case rel => exact ⟨i, by omega, by go_num, HR.out, HD2.out⟩
                case measure => (simp [RowKit.intOf] <;> omega)
        · have hi1 : (k : Int) < s.size := by omega
          have hi2 : decide ((k : Int) < t.size) = false := decide_eq_false (by omega)
          have hi2' : decide (k < t.size) = false := decide_eq_false (by omega)
          clear hno hkC
          go_wp2
          go_quiet (fail)
          go_wp2
          go_loopw [5] (fun i wr => ∃ j : Nat, j ≤ C ∧ i = .int .i64 j ∧ RowKit.Hid (F = backE s.data.toList j) ∧ RowKit.Hid (DrewQ w wr)) (fun i _ => (RowKit.intOf i).toNat)
          case atStart => exact ⟨k, hk, rfl, by rw [HF.out, HKC.out]; rfl, HD.out.more _⟩
          case round =>
            obtain ⟨j, hj, rfl, HJ, HD2⟩ := hrel
            by_cases hj0 : j = 0
            · subst hj0
              have HR := Lib.hid (show F = 0 from HJ.out)
              go_wp2
              go_ret
              exact ⟨by rw [HR.out]; rfl, HD2.out⟩
            · have hjp : (j : Int) > 0 := by omega
              obtain ⟨i, rfl⟩ : ∃ i, j = i + 1 := ⟨j - 1, by omega⟩
              obtain ⟨a, ha⟩ : ∃ a : Nat, a = s.size - (i + 1) := ⟨_, rfl⟩
              have ha1 : (s.size : Int) - ((i + 1 : Nat) : Int) = a := by omega
              have ha1' : (s.size : Int) - ((i : Int) + 1) = a := by omega
              have ha2 : a < s.size := by omega
              have ha3 : (a : Int) < s.size := by omega
              cases hA : contL s.data.toList a
              · have HW1 := Lib.hid (within_of s a ha2 false hA)
                have HR := Lib.hid (show F = i + 1 from HJ.out.trans (backE_stop (by rw [HL.out, ← ha]; exact hA)))
                clear hA ha
                go_wp2_with (first | (go_at_call 81; with_reducible (refine (HW1.out _).mono ?_); rintro e x2 ⟨rfl, rfl⟩))
                go_ret
                exact ⟨by rw [HR.out]; rfl, HD2.out⟩
              · have HW1 := Lib.hid (within_of s a ha2 true hA)
                have HR := Lib.hid (HJ.out.trans (backE_step (by rw [HL.out, ← ha]; exact hA)))
                clear hA ha
                go_wp2_with (first | (go_at_call 81; with_reducible (refine (HW1.out _).mono ?_); rintro e x2 ⟨rfl, rfl⟩))
                go_roundw
                case rel => exact ⟨i, by omega, by go_num, HR.out, HD2.out⟩
                case measure => (simp [RowKit.intOf] <;> omega)
      · have hi1 : decide ((k : Int) < s.size) = false := decide_eq_false (by omega)
        have hi1' : decide (k < s.size) = false := decide_eq_false (by omega)
        clear hno hkC
        go_wp2
        go_quiet (fail)
        go_wp2
        go_loopw [5] (fun i wr => ∃ j : Nat, j ≤ C ∧ i = .int .i64 j ∧ RowKit.Hid (F = backE s.data.toList j) ∧ RowKit.Hid (DrewQ w wr)) (fun i _ => (RowKit.intOf i).toNat)
        case atStart => exact ⟨k, hk, rfl, by rw [HF.out, HKC.out]; rfl, HD.out.more _⟩
        case round =>
          obtain ⟨j, hj, rfl, HJ, HD2⟩ := hrel
          by_cases hj0 : j = 0
          · subst hj0
            have HR := Lib.hid (show F = 0 from HJ.out)
            go_wp2
            go_ret
            exact ⟨by rw [HR.out]; rfl, HD2.out⟩
          · have hjp : (j : Int) > 0 := by omega
            obtain ⟨i, rfl⟩ : ∃ i, j = i + 1 := ⟨j - 1, by omega⟩
            obtain ⟨a, ha⟩ : ∃ a : Nat, a = s.size - (i + 1) := ⟨_, rfl⟩
            have ha1 : (s.size : Int) - ((i + 1 : Nat) : Int) = a := by omega
            have ha1' : (s.size : Int) - ((i : Int) + 1) = a := by omega
            have ha2 : a < s.size := by omega
            have ha3 : (a : Int) < s.size := by omega
            cases hA : contL s.data.toList a
            · have HW1 := Lib.hid (within_of s a ha2 false hA)
              have HR := Lib.hid (show F = i + 1 from HJ.out.trans (backE_stop (by rw [HL.out, ← ha]; exact hA)))
              clear hA ha
              go_wp2_with (first | (go_at_call 81; with_reducible (refine (HW1.out _).mono ?_); rintro e x2 ⟨rfl, rfl⟩))
              go_ret
              exact ⟨by rw [HR.out]; rfl, HD2.out⟩
            · have HW1 := Lib.hid (within_of s a ha2 true hA)
              have HR := Lib.hid (HJ.out.trans (backE_step (by rw [HL.out, ← ha]; exact hA)))
              clear hA ha
              go_wp2_with (first | (go_at_call 81; with_reducible (refine (HW1.out _).mono ?_); rintro e x2 ⟨rfl, rfl⟩))
              go_roundw
              case rel => exact ⟨i, by omega, by go_num, HR.out, HD2.out⟩
              case measure => (simp [RowKit.intOf] <;> omega)
end Go.Proofs.YtdeihlbnlogjcaaDoor
