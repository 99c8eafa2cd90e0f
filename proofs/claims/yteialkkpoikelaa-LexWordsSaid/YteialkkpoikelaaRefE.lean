/- The contract of the document's reader of one token: the rest. -/
import Derived.Test.YteialkkpoikelaaRefD
import Derived.Deep.QuietTactic
import Derived.BigQuiet
import Derived.Test.YteialkkpoikelaaMem
namespace Go.Proofs.Yteialkkpoikelaa
open Go.RowKit Go.Lib
set_option maxRecDepth 100000
set_option linter.unusedVariables false
set_option linter.unusedSectionVars false

def sgns : List (List UInt8) := [[45, 62], [58, 58], [59, 59], [40], [41], [44], [124], [61], [60], [43], [45], [42], [95]]
theorem sgn_get (j : Nat) (hj : j < 13) : ∃ b : ByteArray, (#[.string { data := #[45, 62] }, .string { data := #[58, 58] }, .string { data := #[59, 59] }, .string { data := #[40] }, .string { data := #[41] }, .string { data := #[44] }, .string { data := #[124] }, .string { data := #[61] }, .string { data := #[60] }, .string { data := #[43] }, .string { data := #[45] }, .string { data := #[42] }, .string { data := #[95] }] : Array Value)[j]? = some (.string b) ∧ sgns[j]? = some b.data.toList ∧ b.size ≤ 1000 := by
  match j, hj with
  | 0, _ | 1, _ | 2, _ | 3, _ | 4, _ | 5, _ | 6, _ | 7, _ | 8, _ | 9, _ | 10, _ | 11, _ | 12, _ => exact ⟨_, rfl, rfl, by decide⟩
theorem sgn_step {l : List UInt8} {j : Nat} {b0 : ByteArray} (h : ∀ i b, i < j → sgns[i]? = some b → Lx.preB b l = false) (h0 : sgns[j]? = some b0.data.toList) (hq : Lx.preB b0.data.toList l = false) : ∀ i b, i < j + 1 → sgns[i]? = some b → Lx.preB b l = false := by
  intro i b hi hb
  rcases Nat.lt_succ_iff_lt_or_eq.1 hi with hi | rfl
  · exact h i b hi hb
  · rw [h0] at hb
    injection hb with hb
    rw [← hb]; exact hq
theorem pre_nil (b : UInt8) (t : List UInt8) : Lx.preB (b :: t) [] = false := rfl
theorem pre_one (b x : UInt8) (l : List UInt8) : Lx.preB [b] (x :: l) = (b == x) := by simp [Lx.preB, List.isPrefixOf]
theorem pre_two (a b x y : UInt8) (l : List UInt8) : Lx.preB [a, b] (x :: y :: l) = (a == x && b == y) := by simp [Lx.preB, List.isPrefixOf]
theorem pre_short (a b x : UInt8) : Lx.preB [a, b] [x] = false := by simp [Lx.preB, List.isPrefixOf]
theorem two_no {x y : UInt8} {l : List UInt8} (h : ∀ i b, i < 3 → sgns[i]? = some b → Lx.preB b (x :: y :: l) = false) : Lx.twoSign x y = false := by
  have h0 := h 0 _ (by omega) rfl
  have h1 := h 1 _ (by omega) rfl
  have h2 := h 2 _ (by omega) rfl
  rw [pre_two] at h0 h1 h2
  rw [Bool.beq_comm (a := (45 : UInt8)), Bool.beq_comm (a := (62 : UInt8))] at h0
  rw [Bool.beq_comm (a := (58 : UInt8)), Bool.beq_comm (a := (58 : UInt8))] at h1
  rw [Bool.beq_comm (a := (59 : UInt8)), Bool.beq_comm (a := (59 : UInt8))] at h2
  simp only [Lx.twoSign, h0, h1, h2, Bool.or_self]
theorem sgn_hit {l : List UInt8} {j : Nat} {b : List UInt8} (hj : j ≤ 13) (h : ∀ i b, i < j → sgns[i]? = some b → Lx.preB b l = false) (h0 : sgns[j]? = some b) (hq : Lx.preB b l = true) : 0 < Lx.signN l ∧ Lx.signN l = b.length := by
  have hlt : j < 13 := by
    rcases Nat.lt_or_ge j 13 with h' | h'
    · exact h'
    · have : sgns[j]? = none := List.getElem?_eq_none (by simpa [sgns] using h')
      rw [this] at h0; simp at h0
  have one : ∀ c : UInt8, b = [c] → Lx.ones.contains c = true → 3 ≤ j → 0 < Lx.signN l ∧ Lx.signN l = b.length := by
    rintro c rfl hc h3
    match l, hq with
    | x :: l, hq =>
      rw [pre_one] at hq
      have : c = x := by simpa using hq
      subst this
      match l with
      | [] => simp only [Lx.signN, hc]; simp
      | y :: l =>
        have e := two_no (fun i b hi hb => h i b (by omega) hb)
        simp only [Lx.signN, hc, e]; simp
  have two : ∀ c d : UInt8, b = [c, d] → Lx.twoSign c d = true → 0 < Lx.signN l ∧ Lx.signN l = b.length := by
    rintro c d rfl hc
    match l, hq with
    | [x], hq => rw [pre_short] at hq; simp at hq
    | x :: y :: l, hq =>
      rw [pre_two] at hq
      simp only [Bool.and_eq_true, beq_iff_eq] at hq
      obtain ⟨rfl, rfl⟩ := hq
      simp only [Lx.signN, hc]; simp
  match j, hlt, h0 with
  | 0, _, h0 | 1, _, h0 | 2, _, h0 => exact two _ _ ((Option.some.inj h0).symm) rfl
  | 3, _, h0 | 4, _, h0 | 5, _, h0 | 6, _, h0 | 7, _, h0 | 8, _, h0 | 9, _, h0 | 10, _, h0 | 11, _, h0 | 12, _, h0 => exact one _ ((Option.some.inj h0).symm) rfl (by omega)
theorem sgn_none (l : List UInt8) (h : ∀ i b, i < 13 → sgns[i]? = some b → Lx.preB b l = false) : Lx.signN l = 0 := by
  have one : ∀ (x : UInt8) (t : List UInt8), l = x :: t → Lx.ones.contains x = false := by
    rintro x t rfl
    rw [Bool.eq_false_iff]
    intro hc
    have hx : x ∈ Lx.ones := by simpa using hc
    have : ∃ i, i < 13 ∧ sgns[i]? = some [x] := by
      simp only [Lx.ones, List.mem_cons, List.mem_nil_iff, or_false] at hx
      rcases hx with rfl | rfl | rfl | rfl | rfl | rfl | rfl | rfl | rfl | rfl
      · exact ⟨3, by omega, rfl⟩
      · exact ⟨4, by omega, rfl⟩
      · exact ⟨5, by omega, rfl⟩
      · exact ⟨6, by omega, rfl⟩
      · exact ⟨7, by omega, rfl⟩
      · exact ⟨8, by omega, rfl⟩
      · exact ⟨9, by omega, rfl⟩
      · exact ⟨10, by omega, rfl⟩
      · exact ⟨11, by omega, rfl⟩
      · exact ⟨12, by omega, rfl⟩
    obtain ⟨i, hi, e⟩ := this
    have := h i _ hi e
    rw [pre_one] at this
    simp at this
  match l with
  | [] => rfl
  | [x] => simp only [Lx.signN, one x [] rfl]; simp
  | x :: y :: t =>
    have e := two_no (fun i b hi hb => h i b (by omega) hb)
    simp only [Lx.signN, one x _ rfl, e]; simp
theorem ch0_of {c : UInt8} (h : Lx.isSmall c = true ∨ Lx.isGreat c = true ∨ Lx.isDigit c = true ∨ ((c.toNat : Int) == 95) = true) : Lx.nameCh [] c = true := by
  rcases h with h | h | h | h
  · simp [Lx.nameCh, Lx.isLetter, h]
  · simp [Lx.nameCh, Lx.isLetter, h]
  · simp [Lx.nameCh, Lx.isLetter, h]
  · have : c.toNat = 95 := by simp at h; omega
    simp [Lx.nameCh, Lx.isLetter, this]
theorem ch0_not {c : UInt8} (h1 : ¬ Lx.isSmall c = true) (h2 : ¬ Lx.isGreat c = true) (h3 : ¬ Lx.isDigit c = true) (h4 : ((c.toNat : Int) == 95) = false) : Lx.nameCh [] c = false := by
  have e1 : ¬ c.toNat = 95 := by simp at h4; omega
  simp [Lx.nameCh, Lx.isLetter, h1, h2, h3, e1]
theorem rest_hit {l : List UInt8} {n : Nat} {x : Nat × Nat} (ht : Lx.tokF l = if 0 < Lx.signN l then (6, Lx.signN l) else x) (e : 0 < Lx.signN l ∧ Lx.signN l = n) : Lx.tokF l = (6, n) := by
  rw [ht, if_pos e.1, e.2]
theorem rest_none {l : List UInt8} {x : Nat × Nat} (ht : Lx.tokF l = if 0 < Lx.signN l then (6, Lx.signN l) else x) (e : Lx.signN l = 0) : Lx.tokF l = x := by
  rw [ht, if_neg (by omega)]
section
variable (s : ByteArray) (a : Nat) (h : a < s.size) (hs : s.size ≤ 1099511627776) (w : World) (h0 : Lx.isSmall s[a] = false) (h1 : Lx.isGreat s[a] = false) (h2 : ((s[a].toNat : Int) == 95) = false)
include h hs h0 h1 h2
theorem tok_rest : Lx.tokF (s.data.toList.drop a) =
    if Lx.isDigit s[a] then (3, Lx.digN (s.data.toList.drop (a + 1)) + 1)
    else if Lx.isTick (s.data.toList.drop a) then (4, Lx.runN [] (s.data.toList.drop (a + 1)) + 1)
    else if 0 < Lx.signN (s.data.toList.drop a) then (6, Lx.signN (s.data.toList.drop a))
    else (7, Lx.errN (s.data.toList.drop (a + 1)) + 1) := by
  have n : (s[a].toNat = 95) = False := by simp at h2; simp; omega
  rw [tokF_eq s a h]
  simp only [h0, h1, n, decide_false, Bool.or_self, Bool.false_eq_true, if_false]
set_option maxHeartbeats 1000000 in
theorem one_digit (h3 : Lx.isDigit s[a] = true) : Calls Try.prog 26 #[.string s, .int .i64 a] w (OnePost s a w) := by
  have ht := tok_rest s a h hs h0 h1 h2
  rw [if_pos h3] at ht
  have HT := Lib.hid ht
  clear ht
  go_enter Try.func26, Try.ntmps26
  go_wp2_with (first | (go_at_call 24; refine (rat_any _ _ _ (by omega) hs HSZ.out _).mono ?_; rintro e w' ⟨rfl, rfl⟩) | (go_at_call 36; refine (rsmall_any _ _).mono ?_; rintro e w' ⟨rfl, rfl⟩) | (go_at_call 37; refine (rgreat_any _ _).mono ?_; rintro e w' ⟨rfl, rfl⟩) | (go_at_call 38; refine (rdigit_any _ _).mono ?_; rintro e w' ⟨rfl, rfl⟩))
  go_loop [7] (fun i => ∃ k : Nat, a + 1 ≤ k ∧ k ≤ s.size ∧ i = .int .i64 k ∧ k - (a + 1) ≤ Lx.digN (s.data.toList.drop (a + 1))) (fun i => s.size - (intOf i).toNat)
  case atStart => exact ⟨a + 1, by omega, by omega, by go_num, by omega⟩
  case round =>
    obtain ⟨k, hak, hk, rfl, hr⟩ := hrel
    have HR := Lib.hid hr
    clear hr
    by_cases hlt : k < s.size
    · cases hd : Lx.isDigit s[k]
      · have HS := Lib.hid (dig_stop hlt hak HR.out hd)
        go_wp2_with (first | (go_at_call 24; refine (rat_any _ _ _ (by omega) hs HSZ.out _).mono ?_; rintro e w' ⟨rfl, rfl⟩) | (go_at_call 36; refine (rsmall_any _ _).mono ?_; rintro e w' ⟨rfl, rfl⟩) | (go_at_call 37; refine (rgreat_any _ _).mono ?_; rintro e w' ⟨rfl, rfl⟩) | (go_at_call 38; refine (rdigit_any _ _).mono ?_; rintro e w' ⟨rfl, rfl⟩))
        go_ret2
        have e := HS.out
        exact one_ret HT.out (by decide) rfl (by omega) (Below.refl _ _)
      · have HS := Lib.hid (dig_step hlt hak HR.out hd)
        go_wp2_with (first | (go_at_call 24; refine (rat_any _ _ _ (by omega) hs HSZ.out _).mono ?_; rintro e w' ⟨rfl, rfl⟩) | (go_at_call 36; refine (rsmall_any _ _).mono ?_; rintro e w' ⟨rfl, rfl⟩) | (go_at_call 37; refine (rgreat_any _ _).mono ?_; rintro e w' ⟨rfl, rfl⟩) | (go_at_call 38; refine (rdigit_any _ _).mono ?_; rintro e w' ⟨rfl, rfl⟩))
        go_round
        case rel => exact ⟨k + 1, by omega, by omega, by go_num, HS.out⟩
        case measure => simp [intOf]; omega
    · have HS := Lib.hid (dig_all hlt hk hak HR.out)
      go_wp2_with (first | (go_at_call 24; refine (rat_any _ _ _ (by omega) hs HSZ.out _).mono ?_; rintro e w' ⟨rfl, rfl⟩) | (go_at_call 36; refine (rsmall_any _ _).mono ?_; rintro e w' ⟨rfl, rfl⟩) | (go_at_call 37; refine (rgreat_any _ _).mono ?_; rintro e w' ⟨rfl, rfl⟩) | (go_at_call 38; refine (rdigit_any _ _).mono ?_; rintro e w' ⟨rfl, rfl⟩))
      go_ret2
      have e := HS.out
      exact one_ret HT.out (by decide) rfl (by omega) (Below.refl _ _)
theorem tick_yes (h4 : s[a].toNat = 39) (h5 : a + 1 < s.size) (h6 : Lx.isSmall s[a + 1] = true) : Lx.isTick (s.data.toList.drop a) = true := by
  rw [drop_at s a h, drop_at s (a + 1) h5]
  simp [Lx.isTick, h4, h6]
set_option maxHeartbeats 1000000 in
theorem one_tick (h3 : Lx.isDigit s[a] = false) (h4 : s[a].toNat = 39) (h5 : a + 1 < s.size) (h6 : Lx.isSmall s[a + 1] = true) : Calls Try.prog 26 #[.string s, .int .i64 a] w (OnePost s a w) := by
  have ht := tok_rest s a h hs h0 h1 h2
  rw [if_neg (by simp [h3]), if_pos (tick_yes s a h hs h0 h1 h2 h4 h5 h6)] at ht
  have HT := Lib.hid ht
  have b39 : ((s[a].toNat : Int) == 39) = true := by simp; omega
  clear ht h4
  go_enter Try.func26, Try.ntmps26
  go_wp2_with (first | (go_at_call 24; refine (rat_any _ _ _ (by omega) hs HSZ.out _).mono ?_; rintro e w' ⟨rfl, rfl⟩) | (go_at_call 36; refine (rsmall_any _ _).mono ?_; rintro e w' ⟨rfl, rfl⟩) | (go_at_call 37; refine (rgreat_any _ _).mono ?_; rintro e w' ⟨rfl, rfl⟩) | (go_at_call 38; refine (rdigit_any _ _).mono ?_; rintro e w' ⟨rfl, rfl⟩))
  go_loop [7] (fun i => ∃ k : Nat, a + 1 ≤ k ∧ k ≤ s.size ∧ i = .int .i64 k ∧ k - (a + 1) ≤ Lx.runN [] (s.data.toList.drop (a + 1))) (fun i => s.size - (intOf i).toNat)
  case atStart => exact ⟨a + 1, by omega, by omega, by go_num, by omega⟩
  case round =>
    obtain ⟨k, hak, hk, rfl, hr⟩ := hrel
    have HR := Lib.hid hr
    clear hr
    by_cases hlt : k < s.size
    · go_wp2_with (first | (go_at_call 24; refine (rat_any _ _ _ (by omega) hs HSZ.out _).mono ?_; rintro e w' ⟨rfl, rfl⟩) | (go_at_call 36; refine (rsmall_any _ _).mono ?_; rintro e w' ⟨rfl, rfl⟩) | (go_at_call 37; refine (rgreat_any _ _).mono ?_; rintro e w' ⟨rfl, rfl⟩) | (go_at_call 38; refine (rdigit_any _ _).mono ?_; rintro e w' ⟨rfl, rfl⟩))
      · go_round
        case rel => exact ⟨k + 1, by omega, by omega, by go_num, ch_step hlt hak HR.out (ch0_of (.inl ‹_›))⟩
        case measure => simp [intOf]; omega
      · go_round
        case rel => exact ⟨k + 1, by omega, by omega, by go_num, ch_step hlt hak HR.out (ch0_of (.inr (.inl ‹_›)))⟩
        case measure => simp [intOf]; omega
      · go_round
        case rel => exact ⟨k + 1, by omega, by omega, by go_num, ch_step hlt hak HR.out (ch0_of (.inr (.inr (.inl ‹_›))))⟩
        case measure => simp [intOf]; omega
      · go_round
        case rel => exact ⟨k + 1, by omega, by omega, by go_num, ch_step hlt hak HR.out (ch0_of (.inr (.inr (.inr ‹_›))))⟩
        case measure => simp [intOf]; omega
      · have e := ch_stop hlt hak HR.out (ch0_not ‹_› ‹_› ‹_› ‹_›)
        go_ret2
        exact one_ret HT.out (by decide) rfl (by omega) (Below.refl _ _)
    · go_wp2_with (first | (go_at_call 24; refine (rat_any _ _ _ (by omega) hs HSZ.out _).mono ?_; rintro e w' ⟨rfl, rfl⟩) | (go_at_call 36; refine (rsmall_any _ _).mono ?_; rintro e w' ⟨rfl, rfl⟩) | (go_at_call 37; refine (rgreat_any _ _).mono ?_; rintro e w' ⟨rfl, rfl⟩) | (go_at_call 38; refine (rdigit_any _ _).mono ?_; rintro e w' ⟨rfl, rfl⟩))
      have e := ch_all hlt hk hak HR.out
      go_ret2
      exact one_ret HT.out (by decide) rfl (by omega) (Below.refl _ _)
set_option maxHeartbeats 4000000 in
theorem one_rest (h3 : Lx.isDigit s[a] = false) (h4 : Lx.isTick (s.data.toList.drop a) = false) : Calls Try.prog 26 #[.string s, .int .i64 a] w (OnePost s a w) := by
  have ht := tok_rest s a h hs h0 h1 h2
  rw [if_neg (by simp [h3]), if_neg (by simp [h4])] at ht
  have HT := Lib.hid ht
  have h5 : ((s[a].toNat : Int) == 39) = false ∨ ((s[a].toNat : Int) == 39) = true ∧ (¬ a + 1 < s.size ∨ ∃ h5 : a + 1 < s.size, Lx.isSmall s[a + 1] = false) := by
    cases e : ((s[a].toNat : Int) == 39)
    · exact .inl rfl
    · refine .inr ⟨rfl, ?_⟩
      by_cases h5 : a + 1 < s.size
      · refine .inr ⟨h5, ?_⟩
        rw [Bool.eq_false_iff]
        intro h6
        rw [tick_yes s a h hs h0 h1 h2 (by simp at e; omega) h5 h6] at h4
        simp at h4
      · exact .inl h5
  clear ht h4
  rcases h5 with h5 | ⟨h5, h6 | ⟨h6, h7⟩⟩
  · go_enter Try.func26, Try.ntmps26
    go_wp2_with (first | (go_at_call 36; refine (rsmall_any _ _).mono ?_; rintro e w' ⟨rfl, rfl⟩) | (go_at_call 37; refine (rgreat_any _ _).mono ?_; rintro e w' ⟨rfl, rfl⟩) | (go_at_call 38; refine (rdigit_any _ _).mono ?_; rintro e w' ⟨rfl, rfl⟩))
    go_at_call 40
    refine (signs_any _).mono ?_
    rintro e w' ⟨rfl, rfl⟩
    go_wp2
    go_loopw [12] (fun i wr => ∃ j : Nat, j ≤ 13 ∧ i = .int .i64 j ∧ Tab #[.string { data := #[45, 62] }, .string { data := #[58, 58] }, .string { data := #[59, 59] }, .string { data := #[40] }, .string { data := #[41] }, .string { data := #[44] }, .string { data := #[124] }, .string { data := #[61] }, .string { data := #[60] }, .string { data := #[43] }, .string { data := #[45] }, .string { data := #[42] }, .string { data := #[95] }] w.heap.size (w.heap.size + 1) w wr ∧ ∀ i b, i < j → sgns[i]? = some b → Lx.preB b (s.data.toList.drop a) = false) (fun i _ => 13 - (intOf i).toNat)
    case atStart => exact ⟨0, by omega, rfl, tab_new _ _, by intros; omega⟩
    case round =>
      obtain ⟨j, hj, rfl, htab, hno⟩ := hrel
      have HNO := Lib.hid hno
      have HB := Lib.hid htab.2
      by_cases hjl : j < 13
      · obtain ⟨b, hb, hkey, hz⟩ := sgn_get j hjl
        have hcell := (htab.1 j hjl).trans hb
        have HTAB := Lib.hid htab
        have HKEY := Lib.hid hkey
        have HSZ := Lib.hid hz
        clear htab hno hb hkey hz
        cases hq : Lx.preB b.data.toList (s.data.toList.drop a)
        · go_wp2_with (first | (go_at_call 24; refine (rat_any _ _ _ (by omega) hs HSZ.out _).mono ?_; rintro e w' ⟨rfl, rfl⟩) | (go_at_call 36; refine (rsmall_any _ _).mono ?_; rintro e w' ⟨rfl, rfl⟩) | (go_at_call 37; refine (rgreat_any _ _).mono ?_; rintro e w' ⟨rfl, rfl⟩) | (go_at_call 38; refine (rdigit_any _ _).mono ?_; rintro e w' ⟨rfl, rfl⟩))
          go_roundw
          case rel => exact ⟨j + 1, by omega, by go_num, HTAB.out, sgn_step HNO.out HKEY.out hq⟩
          case measure => simp [intOf]; omega
        · have HHIT := Lib.hid (sgn_hit hj HNO.out HKEY.out hq)
          have hz : b.size ≤ 1000 := HSZ.out
          go_wp2_with (first | (go_at_call 24; refine (rat_any _ _ _ (by omega) hs HSZ.out _).mono ?_; rintro e w' ⟨rfl, rfl⟩) | (go_at_call 36; refine (rsmall_any _ _).mono ?_; rintro e w' ⟨rfl, rfl⟩) | (go_at_call 37; refine (rgreat_any _ _).mono ?_; rintro e w' ⟨rfl, rfl⟩) | (go_at_call 38; refine (rdigit_any _ _).mono ?_; rintro e w' ⟨rfl, rfl⟩))
          go_quiet (fail)
          go_wp2
          go_ret2
          have e := HHIT.out
          exact one_ret (rest_hit HT.out e) (by decide) rfl rfl (below_drewN HB.out _)
      · clear htab
        have HNN := Lib.hid (sgn_none (s.data.toList.drop a) (fun i b hi hb => hno i b (by omega) hb))
        clear hno
        go_wp2
        go_ret2
        have e := HNN.out
        exact one_none (rest_none HT.out e) HB.out
  · go_enter Try.func26, Try.ntmps26
    go_wp2_with (first | (go_at_call 36; refine (rsmall_any _ _).mono ?_; rintro e w' ⟨rfl, rfl⟩) | (go_at_call 37; refine (rgreat_any _ _).mono ?_; rintro e w' ⟨rfl, rfl⟩) | (go_at_call 38; refine (rdigit_any _ _).mono ?_; rintro e w' ⟨rfl, rfl⟩))
    go_at_call 40
    refine (signs_any _).mono ?_
    rintro e w' ⟨rfl, rfl⟩
    go_wp2
    go_loopw [12] (fun i wr => ∃ j : Nat, j ≤ 13 ∧ i = .int .i64 j ∧ Tab #[.string { data := #[45, 62] }, .string { data := #[58, 58] }, .string { data := #[59, 59] }, .string { data := #[40] }, .string { data := #[41] }, .string { data := #[44] }, .string { data := #[124] }, .string { data := #[61] }, .string { data := #[60] }, .string { data := #[43] }, .string { data := #[45] }, .string { data := #[42] }, .string { data := #[95] }] w.heap.size (w.heap.size + 1) w wr ∧ ∀ i b, i < j → sgns[i]? = some b → Lx.preB b (s.data.toList.drop a) = false) (fun i _ => 13 - (intOf i).toNat)
    case atStart => exact ⟨0, by omega, rfl, tab_new _ _, by intros; omega⟩
    case round =>
      obtain ⟨j, hj, rfl, htab, hno⟩ := hrel
      have HNO := Lib.hid hno
      have HB := Lib.hid htab.2
      by_cases hjl : j < 13
      · obtain ⟨b, hb, hkey, hz⟩ := sgn_get j hjl
        have hcell := (htab.1 j hjl).trans hb
        have HTAB := Lib.hid htab
        have HKEY := Lib.hid hkey
        have HSZ := Lib.hid hz
        clear htab hno hb hkey hz
        cases hq : Lx.preB b.data.toList (s.data.toList.drop a)
        · go_wp2_with (first | (go_at_call 24; refine (rat_any _ _ _ (by omega) hs HSZ.out _).mono ?_; rintro e w' ⟨rfl, rfl⟩) | (go_at_call 36; refine (rsmall_any _ _).mono ?_; rintro e w' ⟨rfl, rfl⟩) | (go_at_call 37; refine (rgreat_any _ _).mono ?_; rintro e w' ⟨rfl, rfl⟩) | (go_at_call 38; refine (rdigit_any _ _).mono ?_; rintro e w' ⟨rfl, rfl⟩))
          go_roundw
          case rel => exact ⟨j + 1, by omega, by go_num, HTAB.out, sgn_step HNO.out HKEY.out hq⟩
          case measure => simp [intOf]; omega
        · have HHIT := Lib.hid (sgn_hit hj HNO.out HKEY.out hq)
          have hz : b.size ≤ 1000 := HSZ.out
          go_wp2_with (first | (go_at_call 24; refine (rat_any _ _ _ (by omega) hs HSZ.out _).mono ?_; rintro e w' ⟨rfl, rfl⟩) | (go_at_call 36; refine (rsmall_any _ _).mono ?_; rintro e w' ⟨rfl, rfl⟩) | (go_at_call 37; refine (rgreat_any _ _).mono ?_; rintro e w' ⟨rfl, rfl⟩) | (go_at_call 38; refine (rdigit_any _ _).mono ?_; rintro e w' ⟨rfl, rfl⟩))
          go_quiet (fail)
          go_wp2
          go_ret2
          have e := HHIT.out
          exact one_ret (rest_hit HT.out e) (by decide) rfl rfl (below_drewN HB.out _)
      · clear htab
        have HNN := Lib.hid (sgn_none (s.data.toList.drop a) (fun i b hi hb => hno i b (by omega) hb))
        clear hno
        go_wp2
        go_ret2
        have e := HNN.out
        exact one_none (rest_none HT.out e) HB.out
  · go_enter Try.func26, Try.ntmps26
    go_wp2_with (first | (go_at_call 36; refine (rsmall_any _ _).mono ?_; rintro e w' ⟨rfl, rfl⟩) | (go_at_call 37; refine (rgreat_any _ _).mono ?_; rintro e w' ⟨rfl, rfl⟩) | (go_at_call 38; refine (rdigit_any _ _).mono ?_; rintro e w' ⟨rfl, rfl⟩))
    go_at_call 40
    refine (signs_any _).mono ?_
    rintro e w' ⟨rfl, rfl⟩
    go_wp2
    go_loopw [12] (fun i wr => ∃ j : Nat, j ≤ 13 ∧ i = .int .i64 j ∧ Tab #[.string { data := #[45, 62] }, .string { data := #[58, 58] }, .string { data := #[59, 59] }, .string { data := #[40] }, .string { data := #[41] }, .string { data := #[44] }, .string { data := #[124] }, .string { data := #[61] }, .string { data := #[60] }, .string { data := #[43] }, .string { data := #[45] }, .string { data := #[42] }, .string { data := #[95] }] w.heap.size (w.heap.size + 1) w wr ∧ ∀ i b, i < j → sgns[i]? = some b → Lx.preB b (s.data.toList.drop a) = false) (fun i _ => 13 - (intOf i).toNat)
    case atStart => exact ⟨0, by omega, rfl, tab_new _ _, by intros; omega⟩
    case round =>
      obtain ⟨j, hj, rfl, htab, hno⟩ := hrel
      have HNO := Lib.hid hno
      have HB := Lib.hid htab.2
      by_cases hjl : j < 13
      · obtain ⟨b, hb, hkey, hz⟩ := sgn_get j hjl
        have hcell := (htab.1 j hjl).trans hb
        have HTAB := Lib.hid htab
        have HKEY := Lib.hid hkey
        have HSZ := Lib.hid hz
        clear htab hno hb hkey hz
        cases hq : Lx.preB b.data.toList (s.data.toList.drop a)
        · go_wp2_with (first | (go_at_call 24; refine (rat_any _ _ _ (by omega) hs HSZ.out _).mono ?_; rintro e w' ⟨rfl, rfl⟩) | (go_at_call 36; refine (rsmall_any _ _).mono ?_; rintro e w' ⟨rfl, rfl⟩) | (go_at_call 37; refine (rgreat_any _ _).mono ?_; rintro e w' ⟨rfl, rfl⟩) | (go_at_call 38; refine (rdigit_any _ _).mono ?_; rintro e w' ⟨rfl, rfl⟩))
          go_roundw
          case rel => exact ⟨j + 1, by omega, by go_num, HTAB.out, sgn_step HNO.out HKEY.out hq⟩
          case measure => simp [intOf]; omega
        · have HHIT := Lib.hid (sgn_hit hj HNO.out HKEY.out hq)
          have hz : b.size ≤ 1000 := HSZ.out
          go_wp2_with (first | (go_at_call 24; refine (rat_any _ _ _ (by omega) hs HSZ.out _).mono ?_; rintro e w' ⟨rfl, rfl⟩) | (go_at_call 36; refine (rsmall_any _ _).mono ?_; rintro e w' ⟨rfl, rfl⟩) | (go_at_call 37; refine (rgreat_any _ _).mono ?_; rintro e w' ⟨rfl, rfl⟩) | (go_at_call 38; refine (rdigit_any _ _).mono ?_; rintro e w' ⟨rfl, rfl⟩))
          go_quiet (fail)
          go_wp2
          go_ret2
          have e := HHIT.out
          exact one_ret (rest_hit HT.out e) (by decide) rfl rfl (below_drewN HB.out _)
      · clear htab
        have HNN := Lib.hid (sgn_none (s.data.toList.drop a) (fun i b hi hb => hno i b (by omega) hb))
        clear hno
        go_wp2
        go_ret2
        have e := HNN.out
        exact one_none (rest_none HT.out e) HB.out
end
theorem one_any (s : ByteArray) (a : Nat) (h : a < s.size) (hs : s.size ≤ 1099511627776) (w : World) : Calls Try.prog 26 #[.string s, .int .i64 a] w (OnePost s a w) := by
  cases h0 : Lx.isSmall s[a]
  · by_cases h2 : s[a].toNat = 95
    · exact one_line s a h hs w h2
    · cases h1 : Lx.isGreat s[a]
      · cases h3 : Lx.isDigit s[a]
        · cases h4 : Lx.isTick (s.data.toList.drop a)
          · exact one_rest s a h hs w h0 h1 (n95 h2) h3 h4
          · have hl := Lx.isTick_len h4
            rw [List.length_drop, ← sz] at hl
            have h5 : a + 1 < s.size := by omega
            rw [drop_at s a h, drop_at s (a + 1) h5] at h4
            simp only [Lx.isTick, Bool.and_eq_true, decide_eq_true_eq] at h4
            exact one_tick s a h hs w h0 h1 (n95 h2) h3 h4.1 h5 h4.2
        · exact one_digit s a h hs w h0 h1 (n95 h2) h3
      · exact one_great s a h hs w h0 h1
  · exact one_small s a h hs w h0
end Go.Proofs.Yteialkkpoikelaa
