/- The contracts of lex's readers of one token. -/
import Derived.Test.YteialkkpoikelaaLexB
import Derived.Lib.Hide
import Derived.Deep.Light
namespace Go.Proofs.Yteialkkpoikelaa
open Go.RowKit Go.Lib
set_option maxRecDepth 100000

theorem begins_eq {s : ByteArray} (h0 : 0 < s.size) : Lx.begins s.data.toList = (Lx.isWhite s[0] || Lx.isSmall s[0] || Lx.isGreat s[0] || Lx.isDigit s[0] || Lx.isTick s.data.toList || decide (0 < Lx.signN s.data.toList)) := by
  rcases e : s.data.toList with _ | ⟨c, t⟩
  · rw [sz, e] at h0; simp at h0
  · have := at0 s 0 h0
    rw [e] at this
    have hc : s[0] = c := by simpa using this.symm
    rw [hc]; rfl
theorem begins_any (s : ByteArray) (h0 : 0 < s.size) (w : World) :
    Calls Try.prog 35 #[.string s] w fun e w' => e = .returned (.bool (Lx.begins s.data.toList)) ∧ w = w' := by
  have HB := Lib.hid (begins_eq h0)
  go_enter Try.func35, Try.ntmps35
  go_wp2_with (first | (go_at_call 19; refine (isWhite_any _ _).mono ?_; rintro e w' ⟨rfl, rfl⟩) | (go_at_call 28; refine (isSmall_any _ _).mono ?_; rintro e w' ⟨rfl, rfl⟩) | (go_at_call 31; refine (isGreat_any _ _).mono ?_; rintro e w' ⟨rfl, rfl⟩) | (go_at_call 32; refine (isDigit_any _ _).mono ?_; rintro e w' ⟨rfl, rfl⟩) | (go_at_call 33; refine (isTick_any _ _).mono ?_; rintro e w' ⟨rfl, rfl⟩) | (go_at_call 34; refine (signLength_any _ h0 _).mono ?_; rintro e w' ⟨rfl, rfl⟩))
  all_goals (go_ret; go_light; refine ⟨ret_bool ?_, rfl⟩; rw [HB.out]; clear HB; simp [*])

theorem nameKind_any (s : ByteArray) (w : World) :
    Calls Try.prog 30 #[.string s] w fun e w' => e = .returned (.int .i64 (Lx.nameKind s.data.toList)) ∧ w = w' := by
  go_enter Try.func30, Try.ntmps30
  go_wp2
  all_goals go_ret
  all_goals (go_light; refine ⟨ret_int ?_, rfl⟩; rw [← toL]; simp [Lx.nameKind, Lx.keys]; simp_all)

/-! ### the length of a front whose bytes all have a mark -/
theorem front_step {p : UInt8 → Bool} : ∀ {l : List UInt8} {k : Nat} (h : k < l.length), k ≤ (l.takeWhile p).length → p l[k] = true → k + 1 ≤ (l.takeWhile p).length
  | c :: t, 0, _, _, h => by simp at h; simp [h]
  | c :: t, k + 1, hk, hr, h => by
    rw [List.takeWhile_cons] at hr ⊢
    split at hr
    · rename_i hc
      rw [if_pos hc]
      simp only [List.length_cons] at hr hk ⊢
      have := front_step (p := p) (l := t) (k := k) (by omega) (by omega) (by simpa using h)
      omega
    · simp at hr
theorem front_stop {p : UInt8 → Bool} : ∀ {l : List UInt8} {k : Nat} (h : k < l.length), p l[k] = false → (l.takeWhile p).length ≤ k
  | c :: t, 0, _, h => by simp at h; simp [h]
  | c :: t, k + 1, hk, h => by
    rw [List.takeWhile_cons]
    split
    · simp only [List.length_cons] at hk ⊢
      have := front_stop (p := p) (l := t) (k := k) (by omega) (by simpa using h)
      omega
    · simp
theorem front_le {p : UInt8 → Bool} (l : List UInt8) : (l.takeWhile p).length ≤ l.length := (List.takeWhile_prefix p).length_le
theorem getB (s : ByteArray) (k : Nat) (h : k < s.size) : s.data.toList[k]'(by simpa using h) = s[k] := rfl

theorem run_step {s m : ByteArray} {k : Nat} (h : k < s.size) (hr : k ≤ Lx.runN m.data.toList s.data.toList)
    (hc : Lx.isSmall s[k] = true ∨ Lx.isGreat s[k] = true ∨ Lx.isDigit s[k] = true ∨ (s[k].toNat : Int) = 95 ∨ 0 ≤ indexByte m.data.toList s[k]) : k + 1 ≤ Lx.runN m.data.toList s.data.toList := by
  refine front_step (l := s.data.toList) (by simpa using h) hr ?_
  rw [getB s k h]
  rcases hc with h | h | h | h | h
  · simp [Lx.nameCh, Lx.isLetter, h]
  · simp [Lx.nameCh, Lx.isLetter, h]
  · simp [Lx.nameCh, Lx.isLetter, h]
  · have : s[k].toNat = 95 := by omega
    simp [Lx.nameCh, Lx.isLetter, this]
  · simp only [Lx.nameCh, contains_iff_indexByte, h, decide_true, Bool.or_true]
theorem run_stop {s m : ByteArray} {k : Nat} (h : k < s.size) (hr : k ≤ Lx.runN m.data.toList s.data.toList)
    (h1 : ¬ Lx.isSmall s[k] = true) (h2 : ¬ Lx.isGreat s[k] = true) (h3 : ¬ Lx.isDigit s[k] = true) (h4 : ¬ (s[k].toNat : Int) = 95) (h5 : indexByte m.data.toList s[k] < 0) : (k : Int) = (Lx.runN m.data.toList s.data.toList : Int) := by
  have : Lx.runN m.data.toList s.data.toList ≤ k := by
    refine front_stop (l := s.data.toList) (by simpa using h) ?_
    rw [getB s k h]
    have h5' : ¬ 0 ≤ indexByte m.data.toList s[k] := by omega
    have h4' : ¬ s[k].toNat = 95 := by omega
    simp only [Lx.nameCh, Lx.isLetter, contains_iff_indexByte, h1, h2, h3, h4', h5', decide_false, Bool.or_false]
  omega
theorem run_all {s m : ByteArray} {k : Nat} (h : ¬ k < s.size) (hr : k ≤ Lx.runN m.data.toList s.data.toList) : (k : Int) = (Lx.runN m.data.toList s.data.toList : Int) := by
  have : Lx.runN m.data.toList s.data.toList ≤ s.size := front_le _
  omega
theorem run_any (s m : ByteArray) (hs : s.size ≤ 9223372036854775807) (w : World) :
    Calls Try.prog 29 #[.string s, .string m] w fun e w' => e = .returned (.int .i64 (Lx.runN m.data.toList s.data.toList)) ∧ w = w' := by
  go_enter Try.func29, Try.ntmps29
  go_wp2
  go_loop [5] (fun i => ∃ k : Nat, k ≤ s.size ∧ i = .int .i64 k ∧ k ≤ Lx.runN m.data.toList s.data.toList) (fun i => s.size - (intOf i).toNat)
  case atStart => exact ⟨0, Nat.zero_le _, rfl, Nat.zero_le _⟩
  case round =>
    obtain ⟨k, hk, rfl, hr⟩ := hrel
    go_wp2_with (first | (go_at_call 28; refine (isSmall_any _ _).mono ?_; rintro e w' ⟨rfl, rfl⟩) | (go_at_call 31; refine (isGreat_any _ _).mono ?_; rintro e w' ⟨rfl, rfl⟩) | (go_at_call 32; refine (isDigit_any _ _).mono ?_; rintro e w' ⟨rfl, rfl⟩) | (go_at_call 41; refine (indexByte_any _ _ _).mono ?_; rintro e w' ⟨rfl, rfl⟩))
    · go_round
      case rel => exact ⟨k + 1, by omega, by go_num, run_step ‹_› hr (.inl ‹_›)⟩
      case measure => simp [intOf]; omega
    · go_round
      case rel => exact ⟨k + 1, by omega, by go_num, run_step ‹_› hr (.inr (.inl ‹_›))⟩
      case measure => simp [intOf]; omega
    · go_round
      case rel => exact ⟨k + 1, by omega, by go_num, run_step ‹_› hr (.inr (.inr (.inl ‹_›)))⟩
      case measure => simp [intOf]; omega
    · go_round
      case rel => exact ⟨k + 1, by omega, by go_num, run_step ‹_› hr (.inr (.inr (.inr (.inl ‹_›))))⟩
      case measure => simp [intOf]; omega
    · rename_i h5
      go_round
      case rel => exact ⟨k + 1, by omega, by go_num, run_step ‹_› hr (.inr (.inr (.inr (h5.imp (fun h => by simpa using h) id))))⟩
      case measure => simp [intOf]; omega
    · rename_i h5
      go_ret
      exact ⟨ret_int (run_stop ‹_› hr ‹_› ‹_› ‹_› ‹_› h5.2), rfl⟩
    · go_ret
      exact ⟨ret_int (run_all ‹_› hr), rfl⟩

/-! ### errors -/
theorem err_step : ∀ {l : List UInt8} {k : Nat}, k < l.length → k ≤ Lx.errN l → Lx.begins (l.drop k) = false → k + 1 ≤ Lx.errN l
  | c :: t, 0, _, _, h => by
    rw [List.drop_zero] at h
    simp [Lx.errN, h]
  | c :: t, k + 1, hk, hr, h => by
    rw [Lx.errN] at hr ⊢
    split at hr
    · omega
    · rename_i hc
      rw [if_neg hc]
      simp only [List.length_cons] at hk
      have := err_step (l := t) (k := k) (by omega) (by omega) (by simpa using h)
      omega
theorem err_le : ∀ l : List UInt8, Lx.errN l ≤ l.length
  | [] => Nat.le_refl _
  | c :: t => by
    rw [Lx.errN]
    split
    · omega
    · have := err_le t
      simp only [List.length_cons]; omega
theorem err_stop : ∀ {l : List UInt8} {k : Nat}, k < l.length → Lx.begins (l.drop k) = true → Lx.errN l ≤ k
  | c :: t, 0, _, h => by
    rw [List.drop_zero] at h
    simp [Lx.errN, h]
  | c :: t, k + 1, hk, h => by
    rw [Lx.errN]
    split
    · omega
    · simp only [List.length_cons] at hk
      have := err_stop (l := t) (k := k) (by omega) (by simpa using h)
      omega

/-! ### one token -/
theorem ext_toL (s : ByteArray) (a : Nat) : (s.extract a s.size).data.toList = s.data.toList.drop a := by
  rw [Lib.extract_data, List.take_of_length_le (by rw [List.length_drop, ← sz]; omega)]
theorem ext_cut (s : ByteArray) (a b : Nat) : (s.extract a b).data.toList = (s.data.toList.drop a).take (b - a) := Lib.extract_data s a b
theorem drop_at (s : ByteArray) (a : Nat) (h : a < s.size) : s.data.toList.drop a = s[a] :: s.data.toList.drop (a + 1) := by
  rw [List.drop_eq_getElem_cons (by simpa using h)]; rfl
theorem tokF_eq (s : ByteArray) (a : Nat) (h : a < s.size) : Lx.tokF (s.data.toList.drop a) =
    if Lx.isSmall s[a] || decide (s[a].toNat = 95) then (Lx.nameKind ((s.data.toList.drop a).take (Lx.runN [39] (s.data.toList.drop a))), Lx.runN [39] (s.data.toList.drop a))
    else if Lx.isGreat s[a] then (2, Lx.runN [39] (s.data.toList.drop a))
    else if Lx.isDigit s[a] then (3, Lx.digN (s.data.toList.drop (a + 1)) + 1)
    else if Lx.isTick (s.data.toList.drop a) then (4, Lx.runN [] (s.data.toList.drop (a + 1)) + 1)
    else if 0 < Lx.signN (s.data.toList.drop a) then (6, Lx.signN (s.data.toList.drop a))
    else (7, Lx.errN (s.data.toList.drop (a + 1)) + 1) := by
  rw [drop_at s a h]; rfl
theorem run_at (s : ByteArray) (a : Nat) (h : a ≤ s.size) (hs : s.size ≤ 9223372036854775807) (m : ByteArray) (w : World) : ∃ n, n = Lx.runN m.data.toList (s.data.toList.drop a) ∧ a + n ≤ s.size ∧
    Calls Try.prog 29 #[.string (s.extract a s.size), .string m] w fun e w' => e = .returned (.int .i64 n) ∧ w = w' := by
  refine ⟨_, rfl, ?_, ?_⟩
  · have := front_le (p := Lx.nameCh m.data.toList) (s.data.toList.drop a)
    rw [List.length_drop, ← sz] at this
    unfold Lx.runN
    omega
  · have := run_any (s.extract a s.size) m (by simp; omega) w
    rw [ext_toL] at this
    exact this
theorem tick_at (s : ByteArray) (a : Nat) (w : World) : Calls Try.prog 33 #[.string (s.extract a s.size)] w fun e w' => e = .returned (.bool (Lx.isTick (s.data.toList.drop a))) ∧ w = w' := by
  have := isTick_any (s.extract a s.size) w
  rw [ext_toL] at this
  exact this
theorem sign_at (s : ByteArray) (a : Nat) (h : a < s.size) (w : World) : Calls Try.prog 34 #[.string (s.extract a s.size)] w fun e w' => e = .returned (.int .i64 (Lx.signN (s.data.toList.drop a))) ∧ w = w' := by
  have := signLength_any (s.extract a s.size) (by simp; omega) w
  rw [ext_toL] at this
  exact this
theorem begins_at (s : ByteArray) (a : Nat) (h : a < s.size) (w : World) : Calls Try.prog 35 #[.string (s.extract a s.size)] w fun e w' => e = .returned (.bool (Lx.begins (s.data.toList.drop a))) ∧ w = w' := by
  have := begins_any (s.extract a s.size) (by simp; omega) w
  rw [ext_toL] at this
  exact this
theorem sign_le : ∀ l : List UInt8, Lx.signN l ≤ l.length
  | [] => Nat.le_refl _
  | [a] => by rw [Lx.signN]; split <;> simp
  | a :: b :: t => by
    rw [Lx.signN]
    split
    · simp
    · split <;> simp
theorem ret_pair {a b c d : Int} (h : a = c) (h' : b = d) : Ending.returned (.tuple #[.int .i64 a, .int .i64 b]) = .returned (.tuple #[.int .i64 c, .int .i64 d]) := by rw [h, h']
theorem dropB (s : ByteArray) {a k : Nat} (ha : a ≤ k) (h : k < s.size) : (s.data.toList.drop a)[k - a]'(by rw [List.length_drop, ← sz]; omega) = s[k] := by
  rw [List.getElem_drop]
  have : a + (k - a) = k := by omega
  simp only [this]
  rfl
theorem dig_step {s : ByteArray} {a k : Nat} (h : k < s.size) (ha : a + 1 ≤ k) (hr : k - (a + 1) ≤ Lx.digN (s.data.toList.drop (a + 1))) (hd : Lx.isDigit s[k] = true) : k + 1 - (a + 1) ≤ Lx.digN (s.data.toList.drop (a + 1)) := by
  have := front_step (p := Lx.isDigit) (l := s.data.toList.drop (a + 1)) (k := k - (a + 1)) (by rw [List.length_drop, ← sz]; omega) hr (by rw [dropB s ha h]; exact hd)
  unfold Lx.digN
  omega
theorem dig_stop {s : ByteArray} {a k : Nat} (h : k < s.size) (ha : a + 1 ≤ k) (hr : k - (a + 1) ≤ Lx.digN (s.data.toList.drop (a + 1))) (hd : Lx.isDigit s[k] = false) : (k : Int) = ((a + (Lx.digN (s.data.toList.drop (a + 1)) + 1) : Nat) : Int) := by
  have := front_stop (p := Lx.isDigit) (l := s.data.toList.drop (a + 1)) (k := k - (a + 1)) (by rw [List.length_drop, ← sz]; omega) (by rw [dropB s ha h]; exact hd)
  unfold Lx.digN at *
  omega
theorem dig_all {s : ByteArray} {a k : Nat} (h : ¬ k < s.size) (hk : k ≤ s.size) (ha : a + 1 ≤ k) (hr : k - (a + 1) ≤ Lx.digN (s.data.toList.drop (a + 1))) : (k : Int) = ((a + (Lx.digN (s.data.toList.drop (a + 1)) + 1) : Nat) : Int) := by
  have := front_le (p := Lx.isDigit) (s.data.toList.drop (a + 1))
  rw [List.length_drop, ← sz] at this
  unfold Lx.digN at *
  omega
theorem dropK {s : ByteArray} {a k : Nat} (ha : a + 1 ≤ k) : (s.data.toList.drop (a + 1)).drop (k - (a + 1)) = s.data.toList.drop k := by
  rw [List.drop_drop]
  congr 1
  omega
theorem er_step {s : ByteArray} {a k : Nat} (h : k < s.size) (ha : a + 1 ≤ k) (hr : k - (a + 1) ≤ Lx.errN (s.data.toList.drop (a + 1))) (hd : Lx.begins (s.data.toList.drop k) = false) : k + 1 - (a + 1) ≤ Lx.errN (s.data.toList.drop (a + 1)) := by
  have := err_step (l := s.data.toList.drop (a + 1)) (k := k - (a + 1)) (by rw [List.length_drop, ← sz]; omega) hr (by rw [dropK ha]; exact hd)
  omega
theorem er_stop {s : ByteArray} {a k : Nat} (h : k < s.size) (ha : a + 1 ≤ k) (hr : k - (a + 1) ≤ Lx.errN (s.data.toList.drop (a + 1))) (hd : Lx.begins (s.data.toList.drop k) = true) : (k : Int) = ((a + (Lx.errN (s.data.toList.drop (a + 1)) + 1) : Nat) : Int) := by
  have := err_stop (l := s.data.toList.drop (a + 1)) (k := k - (a + 1)) (by rw [List.length_drop, ← sz]; omega) (by rw [dropK ha]; exact hd)
  omega
theorem er_all {s : ByteArray} {a k : Nat} (h : ¬ k < s.size) (hk : k ≤ s.size) (ha : a + 1 ≤ k) (hr : k - (a + 1) ≤ Lx.errN (s.data.toList.drop (a + 1))) : (k : Int) = ((a + (Lx.errN (s.data.toList.drop (a + 1)) + 1) : Nat) : Int) := by
  have := err_le (s.data.toList.drop (a + 1))
  rw [List.length_drop, ← sz] at this
  omega
/-- what token answers. -/
def TokPost (s : ByteArray) (a : Nat) (w : World) (e : Ending) (w' : World) : Prop :=
  e = .returned (.tuple #[.int .i64 ((Lx.tokF (s.data.toList.drop a)).1 : Nat), .int .i64 ((a + (Lx.tokF (s.data.toList.drop a)).2 : Nat) : Int)]) ∧ w = w'
theorem b95 {c : UInt8} (h : c.toNat = 95) : ((c.toNat : Int) == 95) = true := by simp; omega
theorem n95 {c : UInt8} (h : ¬ c.toNat = 95) : ((c.toNat : Int) == 95) = false := by simp; omega
section
variable (s : ByteArray) (a : Nat) (h : a < s.size) (hs : s.size ≤ 9223372036854775807) (w : World)
include h hs
theorem token_name (h1 : Lx.isSmall s[a] = true ∨ s[a].toNat = 95) : Calls Try.prog 22 #[.string s, .int .i64 a] w (TokPost s a w) := by
  have HT := Lib.hid (tokF_eq s a h)
  obtain ⟨n1, e1, b1, R1⟩ := run_at s a (by omega) hs { data := #[39] } w
  have e1' : n1 = Lx.runN [39] (s.data.toList.drop a) := e1
  have H1 := Lib.hid R1
  have E1 := Lib.hid e1'
  clear R1 e1 e1'
  rcases h1 with h1 | h1
  · go_enter Try.func22, Try.ntmps22
    go_wp2_with (first | (go_at_call 28; refine (isSmall_any _ _).mono ?_; rintro e w' ⟨rfl, rfl⟩) | (go_at_call 29; with_reducible (refine H1.out.mono ?_); rintro e w' ⟨rfl, rfl⟩) | (go_at_call 30; refine (nameKind_any _ _).mono ?_; rintro e w' ⟨rfl, rfl⟩))
    go_ret2
    go_light
    exact ⟨ret_pair (by rw [HT.out, h1, E1.out]; simp) (by rw [HT.out, h1, E1.out]; simp), rfl⟩
  · have h2 : Lx.isSmall s[a] = false := by simp [Lx.isSmall, h1]
    have h3 := b95 h1
    have H4 := Lib.hid h1
    clear h1
    go_enter Try.func22, Try.ntmps22
    go_wp2_with (first | (go_at_call 28; refine (isSmall_any _ _).mono ?_; rintro e w' ⟨rfl, rfl⟩) | (go_at_call 29; with_reducible (refine H1.out.mono ?_); rintro e w' ⟨rfl, rfl⟩) | (go_at_call 30; refine (nameKind_any _ _).mono ?_; rintro e w' ⟨rfl, rfl⟩))
    go_ret2
    go_light
    exact ⟨ret_pair (by rw [HT.out, H4.out, E1.out]; simp) (by rw [HT.out, H4.out, E1.out]; simp), rfl⟩
variable (h1 : Lx.isSmall s[a] = false) (h2 : ¬ s[a].toNat = 95)
include h1 h2
theorem token_great (h3 : Lx.isGreat s[a] = true) : Calls Try.prog 22 #[.string s, .int .i64 a] w (TokPost s a w) := by
  have HT := Lib.hid (tokF_eq s a h)
  obtain ⟨n1, e1, b1, R1⟩ := run_at s a (by omega) hs { data := #[39] } w
  have e1' : n1 = Lx.runN [39] (s.data.toList.drop a) := e1
  have H1 := Lib.hid R1
  have E1 := Lib.hid e1'
  clear R1 e1 e1'
  have h2' := n95 h2
  go_enter Try.func22, Try.ntmps22
  go_wp2_with (first | (go_at_call 28; refine (isSmall_any _ _).mono ?_; rintro e w' ⟨rfl, rfl⟩) | (go_at_call 31; refine (isGreat_any _ _).mono ?_; rintro e w' ⟨rfl, rfl⟩) | (go_at_call 29; with_reducible (refine H1.out.mono ?_); rintro e w' ⟨rfl, rfl⟩))
  go_ret2
  go_light
  exact ⟨ret_pair (by rw [HT.out]; simp [h1, h2, h3]) (by rw [HT.out, E1.out]; simp [h1, h2, h3]), rfl⟩
variable (h3 : Lx.isGreat s[a] = false)
include h3
theorem token_digit (h4 : Lx.isDigit s[a] = true) : Calls Try.prog 22 #[.string s, .int .i64 a] w (TokPost s a w) := by
  have HT := Lib.hid (tokF_eq s a h)
  have h2' := n95 h2
  go_enter Try.func22, Try.ntmps22
  go_wp2_with (first | (go_at_call 28; refine (isSmall_any _ _).mono ?_; rintro e w' ⟨rfl, rfl⟩) | (go_at_call 31; refine (isGreat_any _ _).mono ?_; rintro e w' ⟨rfl, rfl⟩) | (go_at_call 32; refine (isDigit_any _ _).mono ?_; rintro e w' ⟨rfl, rfl⟩))
  go_loop [8] (fun i => ∃ k : Nat, a + 1 ≤ k ∧ k ≤ s.size ∧ i = .int .i64 k ∧ k - (a + 1) ≤ Lx.digN (s.data.toList.drop (a + 1))) (fun i => s.size - (intOf i).toNat)
  case atStart => exact ⟨a + 1, by omega, by omega, by go_num, by omega⟩
  case round =>
    obtain ⟨k, ha, hk, rfl, hr⟩ := hrel
    go_wp2_with (go_at_call 32; refine (isDigit_any _ _).mono ?_; rintro e w' ⟨rfl, rfl⟩)
    · go_round
      case rel => exact ⟨k + 1, by omega, by omega, by go_num, dig_step ‹_› ha hr ‹_›⟩
      case measure => simp [intOf]; omega
    · go_ret2
      go_light
      have h5 : Lx.isDigit s[k] = false := by assumption
      exact ⟨ret_pair (by rw [HT.out]; simp [h1, h2, h3, h4]) (by rw [HT.out, if_neg (by simp [h1, h2]), if_neg (by simp [h3]), if_pos h4]; exact dig_stop ‹_› ha hr h5), rfl⟩
    · go_ret2
      go_light
      exact ⟨ret_pair (by rw [HT.out]; simp [h1, h2, h3, h4]) (by rw [HT.out, if_neg (by simp [h1, h2]), if_neg (by simp [h3]), if_pos h4]; exact dig_all ‹_› hk ha hr), rfl⟩
variable (h4 : Lx.isDigit s[a] = false)
include h4
theorem token_tick (h5 : Lx.isTick (s.data.toList.drop a) = true) : Calls Try.prog 22 #[.string s, .int .i64 a] w (TokPost s a w) := by
  have HT := Lib.hid (tokF_eq s a h)
  obtain ⟨n2, e2, b2, R2⟩ := run_at s (a + 1) (by omega) hs { data := #[] } w
  have e2' : n2 = Lx.runN [] (s.data.toList.drop (a + 1)) := e2
  have H2 := Lib.hid R2
  have E2 := Lib.hid e2'
  clear R2 e2 e2'
  have h2' := n95 h2
  go_enter Try.func22, Try.ntmps22
  go_wp2_with (first | (go_at_call 28; refine (isSmall_any _ _).mono ?_; rintro e w' ⟨rfl, rfl⟩) | (go_at_call 31; refine (isGreat_any _ _).mono ?_; rintro e w' ⟨rfl, rfl⟩) | (go_at_call 32; refine (isDigit_any _ _).mono ?_; rintro e w' ⟨rfl, rfl⟩) | (go_at_call 33; refine (tick_at _ _ _).mono ?_; rintro e w' ⟨rfl, rfl⟩) | (go_at_call 29; with_reducible (refine H2.out.mono ?_); rintro e w' ⟨rfl, rfl⟩))
  go_ret2
  go_light
  exact ⟨ret_pair (by rw [HT.out]; simp [h1, h2, h3, h4, h5]) (by rw [HT.out, E2.out]; simp [h1, h2, h3, h4, h5]; omega), rfl⟩
variable (h5 : Lx.isTick (s.data.toList.drop a) = false)
include h5
theorem token_sign (h6 : 0 < Lx.signN (s.data.toList.drop a)) : Calls Try.prog 22 #[.string s, .int .i64 a] w (TokPost s a w) := by
  have HT := Lib.hid (tokF_eq s a h)
  have h2' := n95 h2
  have hsl := sign_le (s.data.toList.drop a)
  rw [List.length_drop, ← sz] at hsl
  go_enter Try.func22, Try.ntmps22
  go_wp2_with (first | (go_at_call 28; refine (isSmall_any _ _).mono ?_; rintro e w' ⟨rfl, rfl⟩) | (go_at_call 31; refine (isGreat_any _ _).mono ?_; rintro e w' ⟨rfl, rfl⟩) | (go_at_call 32; refine (isDigit_any _ _).mono ?_; rintro e w' ⟨rfl, rfl⟩) | (go_at_call 33; refine (tick_at _ _ _).mono ?_; rintro e w' ⟨rfl, rfl⟩) | (go_at_call 34; refine (sign_at _ _ h _).mono ?_; rintro e w' ⟨rfl, rfl⟩))
  go_ret2
  go_light
  exact ⟨ret_pair (by rw [HT.out]; simp [h1, h2, h3, h4, h5, h6]) (by rw [HT.out]; simp [h1, h2, h3, h4, h5, h6]), rfl⟩
theorem token_err (h6 : Lx.signN (s.data.toList.drop a) = 0) : Calls Try.prog 22 #[.string s, .int .i64 a] w (TokPost s a w) := by
  have HT := Lib.hid (tokF_eq s a h)
  have h2' := n95 h2
  go_enter Try.func22, Try.ntmps22
  go_wp2_with (first | (go_at_call 28; refine (isSmall_any _ _).mono ?_; rintro e w' ⟨rfl, rfl⟩) | (go_at_call 31; refine (isGreat_any _ _).mono ?_; rintro e w' ⟨rfl, rfl⟩) | (go_at_call 32; refine (isDigit_any _ _).mono ?_; rintro e w' ⟨rfl, rfl⟩) | (go_at_call 33; refine (tick_at _ _ _).mono ?_; rintro e w' ⟨rfl, rfl⟩) | (go_at_call 34; refine (sign_at _ _ h _).mono ?_; rintro e w' ⟨rfl, rfl⟩))
  go_loop [10] (fun i => ∃ k : Nat, a + 1 ≤ k ∧ k ≤ s.size ∧ i = .int .i64 k ∧ k - (a + 1) ≤ Lx.errN (s.data.toList.drop (a + 1))) (fun i => s.size - (intOf i).toNat)
  case atStart => exact ⟨a + 1, by omega, by omega, by go_num, by omega⟩
  case round =>
    obtain ⟨k, ha, hk, rfl, hr⟩ := hrel
    go_wp2_with (go_at_call 35; refine (begins_at _ _ (by assumption) _).mono ?_; rintro e w' ⟨rfl, rfl⟩)
    · have h7 : (!Lx.begins (s.data.toList.drop k)) = true := by assumption
      go_round
      case rel => exact ⟨k + 1, by omega, by omega, by go_num, er_step ‹_› ha hr (by simpa using h7)⟩
      case measure => simp [intOf]; omega
    · go_ret2
      go_light
      have h7 : (!Lx.begins (s.data.toList.drop k)) = false := by assumption
      exact ⟨ret_pair (by rw [HT.out]; simp [h1, h2, h3, h4, h5, h6]) (by rw [HT.out, if_neg (by simp [h1, h2]), if_neg (by simp [h3]), if_neg (by simp [h4]), if_neg (by simp [h5]), if_neg (by omega)]; exact er_stop ‹_› ha hr (by simpa using h7)), rfl⟩
    · go_ret2
      go_light
      exact ⟨ret_pair (by rw [HT.out]; simp [h1, h2, h3, h4, h5, h6]) (by rw [HT.out, if_neg (by simp [h1, h2]), if_neg (by simp [h3]), if_neg (by simp [h4]), if_neg (by simp [h5]), if_neg (by omega)]; exact er_all ‹_› hk ha hr), rfl⟩
end
theorem token_any (s : ByteArray) (a : Nat) (h : a < s.size) (hs : s.size ≤ 9223372036854775807) (w : World) : Calls Try.prog 22 #[.string s, .int .i64 a] w (TokPost s a w) := by
  by_cases h1 : Lx.isSmall s[a] = true ∨ s[a].toNat = 95
  · exact token_name s a h hs w h1
  have g1 : Lx.isSmall s[a] = false := by simpa using fun x => h1 (.inl x)
  have g2 : ¬ s[a].toNat = 95 := fun x => h1 (.inr x)
  cases h3 : Lx.isGreat s[a]
  · cases h4 : Lx.isDigit s[a]
    · cases h5 : Lx.isTick (s.data.toList.drop a)
      · rcases Nat.eq_zero_or_pos (Lx.signN (s.data.toList.drop a)) with h6 | h6
        · exact token_err s a h hs w g1 g2 h3 h4 h5 h6
        · exact token_sign s a h hs w g1 g2 h3 h4 h5 h6
      · exact token_tick s a h hs w g1 g2 h3 h4 h5
    · exact token_digit s a h hs w g1 g2 h3 h4
  · exact token_great s a h hs w g1 g2 h3
end Go.Proofs.Yteialkkpoikelaa
