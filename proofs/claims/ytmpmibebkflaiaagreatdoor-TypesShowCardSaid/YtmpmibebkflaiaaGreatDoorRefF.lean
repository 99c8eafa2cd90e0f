/- The contract of the document's reader of one token: the rest. The contract of the document's Lex: it answers the tokens that 'Lx.lexF' tells, in new memory. -/
import Derived.Test.YtmpmibebkflaiaaGreatDoorRefD
import Derived.Deep.QuietTactic
import Derived.BigQuiet
import Derived.Test.YtmpmibebkflaiaaGreatDoorMem
namespace Go.Proofs.YtmpmibebkflaiaaGreatDoor
open Go.RowKit Go.Lib
set_option maxRecDepth 100000
set_option linter.unusedVariables false
set_option linter.unusedSectionVars false

def sgns : List (List UInt8) := [[45, 62], [58, 58], [59, 59], [40], [41], [44], [124], [61], [60], [43], [45], [42], [95]]
theorem sgn_get (j : Nat) (hj : j < 13) : ∃ b : ByteArray, (#[.string { data := #[45, 62] }, .string { data := #[58, 58] }, .string { data := #[59, 59] }, .string { data := #[40] }, .string { data := #[41] }, .string { data := #[44] }, .string { data := #[124] }, .string { data := #[61] }, .string { data := #[60] }, .string { data := #[43] }, .string { data := #[45] }, .string { data := #[42] }, .string { data := #[95] }] : Array Value)[j]? = some (.string b) ∧ sgns[j]? = some b.data.toList ∧ b.size ≤ 1000 := by
  match j, hj with
  | 0, _ | 1, _ | 2, _ | 3, _ | 4, _ | 5, _ | 6, _ | 7, _ | 8, _ | 9, _ | 10, _ | 11, _ | 12, _ => exact ⟨_, rfl, rfl, by decide⟩
theorem sgn_step {l : List UInt8} {j : Nat} {b0 : ByteArray} (h : ∀ i b, i < j → sgns[i]? = some b → Lx.preB b l = false) (h0 : sgns[j]? = some b0.data.toList) (hq : Lx.preB b0.data.toList l = false) : ∀ i b, i < j + 1 → sgns[i]? = some b → Lx.preB b l = false := by
  intro i b hi hb
  rcases Nat.lt_succ_iff_lt_or_eq.1 hi with hi | rfl
  · exact h i b hi hb
  · rw [h0] at hb
    injection hb with hb
    rw [← hb]; exact hq
theorem pre_nil (b : UInt8) (t : List UInt8) : Lx.preB (b :: t) [] = false := rfl
theorem pre_one (b x : UInt8) (l : List UInt8) : Lx.preB [b] (x :: l) = (b == x) := by simp [Lx.preB, List.isPrefixOf]
theorem pre_two (a b x y : UInt8) (l : List UInt8) : Lx.preB [a, b] (x :: y :: l) = (a == x && b == y) := by simp [Lx.preB, List.isPrefixOf]
theorem pre_short (a b x : UInt8) : Lx.preB [a, b] [x] = false := by simp [Lx.preB, List.isPrefixOf]
theorem two_no {x y : UInt8} {l : List UInt8} (h : ∀ i b, i < 3 → sgns[i]? = some b → Lx.preB b (x :: y :: l) = false) : Lx.twoSign x y = false := by
  have h0 := h 0 _ (by omega) rfl
  have h1 := h 1 _ (by omega) rfl
  have h2 := h 2 _ (by omega) rfl
  rw [pre_two] at h0 h1 h2
  rw [Bool.beq_comm (a := (45 : UInt8)), Bool.beq_comm (a := (62 : UInt8))] at h0
  rw [Bool.beq_comm (a := (58 : UInt8)), Bool.beq_comm (a := (58 : UInt8))] at h1
  rw [Bool.beq_comm (a := (59 : UInt8)), Bool.beq_comm (a := (59 : UInt8))] at h2
  simp only [Lx.twoSign, h0, h1, h2, Bool.or_self]
theorem sgn_hit {l : List UInt8} {j : Nat} {b : List UInt8} (hj : j ≤ 13) (h : ∀ i b, i < j → sgns[i]? = some b → Lx.preB b l = false) (h0 : sgns[j]? = some b) (hq : Lx.preB b l = true) : 0 < Lx.signN l ∧ Lx.signN l = b.length := by
  have hlt : j < 13 := by
    rcases Nat.lt_or_ge j 13 with h' | h'
    · exact h'
    · have : sgns[j]? = none := List.getElem?_eq_none (by simpa [sgns] using h')
      rw [this] at h0; simp at h0
  have one : ∀ c : UInt8, b = [c] → Lx.ones.contains c = true → 3 ≤ j → 0 < Lx.signN l ∧ Lx.signN l = b.length := by
    rintro c rfl hc h3
    match l, hq with
    | x :: l, hq =>
      rw [pre_one] at hq
      have : c = x := by simpa using hq
      subst this
      match l with
      | [] => simp only [Lx.signN, hc]; simp
      | y :: l =>
        have e := two_no (fun i b hi hb => h i b (by omega) hb)
        simp only [Lx.signN, hc, e]; simp
  have two : ∀ c d : UInt8, b = [c, d] → Lx.twoSign c d = true → 0 < Lx.signN l ∧ Lx.signN l = b.length := by
    rintro c d rfl hc
    match l, hq with
    | [x], hq => rw [pre_short] at hq; simp at hq
    | x :: y :: l, hq =>
      rw [pre_two] at hq
      simp only [Bool.and_eq_true, beq_iff_eq] at hq
      obtain ⟨rfl, rfl⟩ := hq
      simp only [Lx.signN, hc]; simp
  match j, hlt, h0 with
  | 0, _, h0 | 1, _, h0 | 2, _, h0 => exact two _ _ ((Option.some.inj h0).symm) rfl
  | 3, _, h0 | 4, _, h0 | 5, _, h0 | 6, _, h0 | 7, _, h0 | 8, _, h0 | 9, _, h0 | 10, _, h0 | 11, _, h0 | 12, _, h0 => exact one _ ((Option.some.inj h0).symm) rfl (by omega)
theorem sgn_none (l : List UInt8) (h : ∀ i b, i < 13 → sgns[i]? = some b → Lx.preB b l = false) : Lx.signN l = 0 := by
  have one : ∀ (x : UInt8) (t : List UInt8), l = x :: t → Lx.ones.contains x = false := by
    rintro x t rfl
    rw [Bool.eq_false_iff]
    intro hc
    have hx : x ∈ Lx.ones := by simpa using hc
    have : ∃ i, i < 13 ∧ sgns[i]? = some [x] := by
      simp only [Lx.ones, List.mem_cons, List.mem_nil_iff, or_false] at hx
      rcases hx with rfl | rfl | rfl | rfl | rfl | rfl | rfl | rfl | rfl | rfl
      · exact ⟨3, by omega, rfl⟩
      · exact ⟨4, by omega, rfl⟩
      · exact ⟨5, by omega, rfl⟩
      · exact ⟨6, by omega, rfl⟩
      · exact ⟨7, by omega, rfl⟩
      · exact ⟨8, by omega, rfl⟩
      · exact ⟨9, by omega, rfl⟩
      · exact ⟨10, by omega, rfl⟩
      · exact ⟨11, by omega, rfl⟩
      · exact ⟨12, by omega, rfl⟩
    obtain ⟨i, hi, e⟩ := this
    have := h i _ hi e
    rw [pre_one] at this
    simp at this
  match l with
  | [] => rfl
  | [x] => simp only [Lx.signN, one x [] rfl]; simp
  | x :: y :: t =>
    have e := two_no (fun i b hi hb => h i b (by omega) hb)
    simp only [Lx.signN, one x _ rfl, e]; simp
theorem ch0_of {c : UInt8} (h : Lx.isSmall c = true ∨ Lx.isGreat c = true ∨ Lx.isDigit c = true ∨ ((c.toNat : Int) == 95) = true) : Lx.nameCh [] c = true := by
  rcases h with h | h | h | h
  · simp [Lx.nameCh, Lx.isLetter, h]
  · simp [Lx.nameCh, Lx.isLetter, h]
  · simp [Lx.nameCh, Lx.isLetter, h]
  · have : c.toNat = 95 := by simp at h; omega
    simp [Lx.nameCh, Lx.isLetter, this]
theorem ch0_not {c : UInt8} (h1 : ¬ Lx.isSmall c = true) (h2 : ¬ Lx.isGreat c = true) (h3 : ¬ Lx.isDigit c = true) (h4 : ((c.toNat : Int) == 95) = false) : Lx.nameCh [] c = false := by
  have e1 : ¬ c.toNat = 95 := by simp at h4; omega
  simp [Lx.nameCh, Lx.isLetter, h1, h2, h3, e1]
theorem rest_hit {l : List UInt8} {n : Nat} {x : Nat × Nat} (ht : Lx.tokF l = if 0 < Lx.signN l then (6, Lx.signN l) else x) (e : 0 < Lx.signN l ∧ Lx.signN l = n) : Lx.tokF l = (6, n) := by
  rw [ht, if_pos e.1, e.2]
theorem rest_none {l : List UInt8} {x : Nat × Nat} (ht : Lx.tokF l = if 0 < Lx.signN l then (6, Lx.signN l) else x) (e : Lx.signN l = 0) : Lx.tokF l = x := by
  rw [ht, if_neg (by omega)]
section
variable (s : ByteArray) (a : Nat) (h : a < s.size) (hs : s.size ≤ 1099511627776) (w : World) (h0 : Lx.isSmall s[a] = false) (h1 : Lx.isGreat s[a] = false) (h2 : ((s[a].toNat : Int) == 95) = false)
include h hs h0 h1 h2
theorem tok_rest : Lx.tokF (s.data.toList.drop a) =
    if Lx.isDigit s[a] then (3, Lx.digN (s.data.toList.drop (a + 1)) + 1)
    else if Lx.isTick (s.data.toList.drop a) then (4, Lx.runN [] (s.data.toList.drop (a + 1)) + 1)
    else if 0 < Lx.signN (s.data.toList.drop a) then (6, Lx.signN (s.data.toList.drop a))
    else (7, Lx.errN (s.data.toList.drop (a + 1)) + 1) := by
  have n : (s[a].toNat = 95) = False := by simp at h2; simp; omega
  rw [tokF_eq s a h]
  simp only [h0, h1, n, decide_false, Bool.or_self, Bool.false_eq_true, if_false]
set_option maxHeartbeats 1000000 in
theorem one_digit (h3 : Lx.isDigit s[a] = true) : Calls Tryz.prog 67 #[.string s, .int .i64 a] w (OnePost s a w) := by
  have ht := tok_rest s a h hs h0 h1 h2
  rw [if_pos h3] at ht
  have HT := Lib.hid ht
  clear ht
  go_enter Tryz.func67, Tryz.ntmps67
  go_wp2_with (first | (go_at_call 65; refine (rat_any _ _ _ (by omega) hs HSZ.out _).mono ?_; rintro e w' ⟨rfl, rfl⟩) | (go_at_call 73; refine (rsmall_any _ _).mono ?_; rintro e w' ⟨rfl, rfl⟩) | (go_at_call 74; refine (rgreat_any _ _).mono ?_; rintro e w' ⟨rfl, rfl⟩) | (go_at_call 75; refine (rdigit_any _ _).mono ?_; rintro e w' ⟨rfl, rfl⟩))
  go_loop [7] (fun i => ∃ k : Nat, a + 1 ≤ k ∧ k ≤ s.size ∧ i = .int .i64 k ∧ k - (a + 1) ≤ Lx.digN (s.data.toList.drop (a + 1))) (fun i => s.size - (intOf i).toNat)
  case atStart => exact ⟨a + 1, by omega, by omega, by go_num, by omega⟩
  case round =>
    obtain ⟨k, hak, hk, rfl, hr⟩ := hrel
    have HR := Lib.hid hr
    clear hr
    by_cases hlt : k < s.size
    · cases hd : Lx.isDigit s[k]
      · have HS := Lib.hid (dig_stop hlt hak HR.out hd)
        go_wp2_with (first | (go_at_call 65; refine (rat_any _ _ _ (by omega) hs HSZ.out _).mono ?_; rintro e w' ⟨rfl, rfl⟩) | (go_at_call 73; refine (rsmall_any _ _).mono ?_; rintro e w' ⟨rfl, rfl⟩) | (go_at_call 74; refine (rgreat_any _ _).mono ?_; rintro e w' ⟨rfl, rfl⟩) | (go_at_call 75; refine (rdigit_any _ _).mono ?_; rintro e w' ⟨rfl, rfl⟩))
        go_ret2
        have e := HS.out
        exact one_ret HT.out (by decide) rfl (by omega) (Below.refl _ _)
      · have HS := Lib.hid (dig_step hlt hak HR.out hd)
        go_wp2_with (first | (go_at_call 65; refine (rat_any _ _ _ (by omega) hs HSZ.out _).mono ?_; rintro e w' ⟨rfl, rfl⟩) | (go_at_call 73; refine (rsmall_any _ _).mono ?_; rintro e w' ⟨rfl, rfl⟩) | (go_at_call 74; refine (rgreat_any _ _).mono ?_; rintro e w' ⟨rfl, rfl⟩) | (go_at_call 75; refine (rdigit_any _ _).mono ?_; rintro e w' ⟨rfl, rfl⟩))
        go_round
        case rel => exact ⟨k + 1, by omega, by omega, by go_num, HS.out⟩
        case measure => simp [intOf]; omega
    · have HS := Lib.hid (dig_all hlt hk hak HR.out)
      go_wp2_with (first | (go_at_call 65; refine (rat_any _ _ _ (by omega) hs HSZ.out _).mono ?_; rintro e w' ⟨rfl, rfl⟩) | (go_at_call 73; refine (rsmall_any _ _).mono ?_; rintro e w' ⟨rfl, rfl⟩) | (go_at_call 74; refine (rgreat_any _ _).mono ?_; rintro e w' ⟨rfl, rfl⟩) | (go_at_call 75; refine (rdigit_any _ _).mono ?_; rintro e w' ⟨rfl, rfl⟩))
      go_ret2
      have e := HS.out
      exact one_ret HT.out (by decide) rfl (by omega) (Below.refl _ _)
theorem tick_yes (h4 : s[a].toNat = 39) (h5 : a + 1 < s.size) (h6 : Lx.isSmall s[a + 1] = true) : Lx.isTick (s.data.toList.drop a) = true := by
  rw [drop_at s a h, drop_at s (a + 1) h5]
  simp [Lx.isTick, h4, h6]
set_option maxHeartbeats 1000000 in
theorem one_tick (h3 : Lx.isDigit s[a] = false) (h4 : s[a].toNat = 39) (h5 : a + 1 < s.size) (h6 : Lx.isSmall s[a + 1] = true) : Calls Tryz.prog 67 #[.string s, .int .i64 a] w (OnePost s a w) := by
  have ht := tok_rest s a h hs h0 h1 h2
  rw [if_neg (by simp [h3]), if_pos (tick_yes s a h hs h0 h1 h2 h4 h5 h6)] at ht
  have HT := Lib.hid ht
  have b39 : ((s[a].toNat : Int) == 39) = true := by simp; omega
  clear ht h4
  go_enter Tryz.func67, Tryz.ntmps67
  go_wp2_with (first | (go_at_call 65; refine (rat_any _ _ _ (by omega) hs HSZ.out _).mono ?_; rintro e w' ⟨rfl, rfl⟩) | (go_at_call 73; refine (rsmall_any _ _).mono ?_; rintro e w' ⟨rfl, rfl⟩) | (go_at_call 74; refine (rgreat_any _ _).mono ?_; rintro e w' ⟨rfl, rfl⟩) | (go_at_call 75; refine (rdigit_any _ _).mono ?_; rintro e w' ⟨rfl, rfl⟩))
  go_loop [7] (fun i => ∃ k : Nat, a + 1 ≤ k ∧ k ≤ s.size ∧ i = .int .i64 k ∧ k - (a + 1) ≤ Lx.runN [] (s.data.toList.drop (a + 1))) (fun i => s.size - (intOf i).toNat)
  case atStart => exact ⟨a + 1, by omega, by omega, by go_num, by omega⟩
  case round =>
    obtain ⟨k, hak, hk, rfl, hr⟩ := hrel
    have HR := Lib.hid hr
    clear hr
    by_cases hlt : k < s.size
    · go_wp2_with (first | (go_at_call 65; refine (rat_any _ _ _ (by omega) hs HSZ.out _).mono ?_; rintro e w' ⟨rfl, rfl⟩) | (go_at_call 73; refine (rsmall_any _ _).mono ?_; rintro e w' ⟨rfl, rfl⟩) | (go_at_call 74; refine (rgreat_any _ _).mono ?_; rintro e w' ⟨rfl, rfl⟩) | (go_at_call 75; refine (rdigit_any _ _).mono ?_; rintro e w' ⟨rfl, rfl⟩))
      · go_round
        case rel => exact ⟨k + 1, by omega, by omega, by go_num, ch_step hlt hak HR.out (ch0_of (.inl ‹_›))⟩
        case measure => simp [intOf]; omega
      · go_round
        case rel => exact ⟨k + 1, by omega, by omega, by go_num, ch_step hlt hak HR.out (ch0_of (.inr (.inl ‹_›)))⟩
        case measure => simp [intOf]; omega
      · go_round
        case rel => exact ⟨k + 1, by omega, by omega, by go_num, ch_step hlt hak HR.out (ch0_of (.inr (.inr (.inl ‹_›))))⟩
        case measure => simp [intOf]; omega
      · go_round
        case rel => exact ⟨k + 1, by omega, by omega, by go_num, ch_step hlt hak HR.out (ch0_of (.inr (.inr (.inr ‹_›))))⟩
        case measure => simp [intOf]; omega
      · have e := ch_stop hlt hak HR.out (ch0_not ‹_› ‹_› ‹_› ‹_›)
        go_ret2
        exact one_ret HT.out (by decide) rfl (by omega) (Below.refl _ _)
    · go_wp2_with (first | (go_at_call 65; refine (rat_any _ _ _ (by omega) hs HSZ.out _).mono ?_; rintro e w' ⟨rfl, rfl⟩) | (go_at_call 73; refine (rsmall_any _ _).mono ?_; rintro e w' ⟨rfl, rfl⟩) | (go_at_call 74; refine (rgreat_any _ _).mono ?_; rintro e w' ⟨rfl, rfl⟩) | (go_at_call 75; refine (rdigit_any _ _).mono ?_; rintro e w' ⟨rfl, rfl⟩))
      have e := ch_all hlt hk hak HR.out
      go_ret2
      exact one_ret HT.out (by decide) rfl (by omega) (Below.refl _ _)
set_option maxHeartbeats 4000000 in
theorem one_rest (h3 : Lx.isDigit s[a] = false) (h4 : Lx.isTick (s.data.toList.drop a) = false) : Calls Tryz.prog 67 #[.string s, .int .i64 a] w (OnePost s a w) := by
  have ht := tok_rest s a h hs h0 h1 h2
  rw [if_neg (by simp [h3]), if_neg (by simp [h4])] at ht
  have HT := Lib.hid ht
  have h5 : ((s[a].toNat : Int) == 39) = false ∨ ((s[a].toNat : Int) == 39) = true ∧ (¬ a + 1 < s.size ∨ ∃ h5 : a + 1 < s.size, Lx.isSmall s[a + 1] = false) := by
    cases e : ((s[a].toNat : Int) == 39)
    · exact .inl rfl
    · refine .inr ⟨rfl, ?_⟩
      by_cases h5 : a + 1 < s.size
      · refine .inr ⟨h5, ?_⟩
        rw [Bool.eq_false_iff]
        intro h6
        rw [tick_yes s a h hs h0 h1 h2 (by simp at e; omega) h5 h6] at h4
        simp at h4
      · exact .inl h5
  clear ht h4
  rcases h5 with h5 | ⟨h5, h6 | ⟨h6, h7⟩⟩
  · go_enter Tryz.func67, Tryz.ntmps67
    go_wp2_with (first | (go_at_call 73; refine (rsmall_any _ _).mono ?_; rintro e w' ⟨rfl, rfl⟩) | (go_at_call 74; refine (rgreat_any _ _).mono ?_; rintro e w' ⟨rfl, rfl⟩) | (go_at_call 75; refine (rdigit_any _ _).mono ?_; rintro e w' ⟨rfl, rfl⟩))
    go_at_call 77
    refine (signs_any _).mono ?_
    rintro e w' ⟨rfl, rfl⟩
    go_wp2
    go_loopw [12] (fun i wr => ∃ j : Nat, j ≤ 13 ∧ i = .int .i64 j ∧ Tab #[.string { data := #[45, 62] }, .string { data := #[58, 58] }, .string { data := #[59, 59] }, .string { data := #[40] }, .string { data := #[41] }, .string { data := #[44] }, .string { data := #[124] }, .string { data := #[61] }, .string { data := #[60] }, .string { data := #[43] }, .string { data := #[45] }, .string { data := #[42] }, .string { data := #[95] }] w.heap.size (w.heap.size + 1) w wr ∧ ∀ i b, i < j → sgns[i]? = some b → Lx.preB b (s.data.toList.drop a) = false) (fun i _ => 13 - (intOf i).toNat)
    case atStart => exact ⟨0, by omega, rfl, tab_new _ _, by intros; omega⟩
    case round =>
      obtain ⟨j, hj, rfl, htab, hno⟩ := hrel
      have HNO := Lib.hid hno
      have HB := Lib.hid htab.2
      by_cases hjl : j < 13
      · obtain ⟨b, hb, hkey, hz⟩ := sgn_get j hjl
        have hcell := (htab.1 j hjl).trans hb
        have HTAB := Lib.hid htab
        have HKEY := Lib.hid hkey
        have HSZ := Lib.hid hz
        clear htab hno hb hkey hz
        cases hq : Lx.preB b.data.toList (s.data.toList.drop a)
        · go_wp2_with (first | (go_at_call 65; refine (rat_any _ _ _ (by omega) hs HSZ.out _).mono ?_; rintro e w' ⟨rfl, rfl⟩) | (go_at_call 73; refine (rsmall_any _ _).mono ?_; rintro e w' ⟨rfl, rfl⟩) | (go_at_call 74; refine (rgreat_any _ _).mono ?_; rintro e w' ⟨rfl, rfl⟩) | (go_at_call 75; refine (rdigit_any _ _).mono ?_; rintro e w' ⟨rfl, rfl⟩))
          go_roundw
          case rel => exact ⟨j + 1, by omega, by go_num, HTAB.out, sgn_step HNO.out HKEY.out hq⟩
          case measure => simp [intOf]; omega
        · have HHIT := Lib.hid (sgn_hit hj HNO.out HKEY.out hq)
          have hz : b.size ≤ 1000 := HSZ.out
          go_wp2_with (first | (go_at_call 65; refine (rat_any _ _ _ (by omega) hs HSZ.out _).mono ?_; rintro e w' ⟨rfl, rfl⟩) | (go_at_call 73; refine (rsmall_any _ _).mono ?_; rintro e w' ⟨rfl, rfl⟩) | (go_at_call 74; refine (rgreat_any _ _).mono ?_; rintro e w' ⟨rfl, rfl⟩) | (go_at_call 75; refine (rdigit_any _ _).mono ?_; rintro e w' ⟨rfl, rfl⟩))
          go_quiet (fail)
          go_wp2
          go_ret2
          have e := HHIT.out
          exact one_ret (rest_hit HT.out e) (by decide) rfl rfl (below_drewN HB.out _)
      · clear htab
        have HNN := Lib.hid (sgn_none (s.data.toList.drop a) (fun i b hi hb => hno i b (by omega) hb))
        clear hno
        go_wp2
        go_ret2
        have e := HNN.out
        exact one_none (rest_none HT.out e) HB.out
  · go_enter Tryz.func67, Tryz.ntmps67
    go_wp2_with (first | (go_at_call 73; refine (rsmall_any _ _).mono ?_; rintro e w' ⟨rfl, rfl⟩) | (go_at_call 74; refine (rgreat_any _ _).mono ?_; rintro e w' ⟨rfl, rfl⟩) | (go_at_call 75; refine (rdigit_any _ _).mono ?_; rintro e w' ⟨rfl, rfl⟩))
    go_at_call 77
    refine (signs_any _).mono ?_
    rintro e w' ⟨rfl, rfl⟩
    go_wp2
    go_loopw [12] (fun i wr => ∃ j : Nat, j ≤ 13 ∧ i = .int .i64 j ∧ Tab #[.string { data := #[45, 62] }, .string { data := #[58, 58] }, .string { data := #[59, 59] }, .string { data := #[40] }, .string { data := #[41] }, .string { data := #[44] }, .string { data := #[124] }, .string { data := #[61] }, .string { data := #[60] }, .string { data := #[43] }, .string { data := #[45] }, .string { data := #[42] }, .string { data := #[95] }] w.heap.size (w.heap.size + 1) w wr ∧ ∀ i b, i < j → sgns[i]? = some b → Lx.preB b (s.data.toList.drop a) = false) (fun i _ => 13 - (intOf i).toNat)
    case atStart => exact ⟨0, by omega, rfl, tab_new _ _, by intros; omega⟩
    case round =>
      obtain ⟨j, hj, rfl, htab, hno⟩ := hrel
      have HNO := Lib.hid hno
      have HB := Lib.hid htab.2
      by_cases hjl : j < 13
      · obtain ⟨b, hb, hkey, hz⟩ := sgn_get j hjl
        have hcell := (htab.1 j hjl).trans hb
        have HTAB := Lib.hid htab
        have HKEY := Lib.hid hkey
        have HSZ := Lib.hid hz
        clear htab hno hb hkey hz
        cases hq : Lx.preB b.data.toList (s.data.toList.drop a)
        · go_wp2_with (first | (go_at_call 65; refine (rat_any _ _ _ (by omega) hs HSZ.out _).mono ?_; rintro e w' ⟨rfl, rfl⟩) | (go_at_call 73; refine (rsmall_any _ _).mono ?_; rintro e w' ⟨rfl, rfl⟩) | (go_at_call 74; refine (rgreat_any _ _).mono ?_; rintro e w' ⟨rfl, rfl⟩) | (go_at_call 75; refine (rdigit_any _ _).mono ?_; rintro e w' ⟨rfl, rfl⟩))
          go_roundw
          case rel => exact ⟨j + 1, by omega, by go_num, HTAB.out, sgn_step HNO.out HKEY.out hq⟩
          case measure => simp [intOf]; omega
        · have HHIT := Lib.hid (sgn_hit hj HNO.out HKEY.out hq)
          have hz : b.size ≤ 1000 := HSZ.out
          go_wp2_with (first | (go_at_call 65; refine (rat_any _ _ _ (by omega) hs HSZ.out _).mono ?_; rintro e w' ⟨rfl, rfl⟩) | (go_at_call 73; refine (rsmall_any _ _).mono ?_; rintro e w' ⟨rfl, rfl⟩) | (go_at_call 74; refine (rgreat_any _ _).mono ?_; rintro e w' ⟨rfl, rfl⟩) | (go_at_call 75; refine (rdigit_any _ _).mono ?_; rintro e w' ⟨rfl, rfl⟩))
          go_quiet (fail)
          go_wp2
          go_ret2
          have e := HHIT.out
          exact one_ret (rest_hit HT.out e) (by decide) rfl rfl (below_drewN HB.out _)
      · clear htab
        have HNN := Lib.hid (sgn_none (s.data.toList.drop a) (fun i b hi hb => hno i b (by omega) hb))
        clear hno
        go_wp2
        go_ret2
        have e := HNN.out
        exact one_none (rest_none HT.out e) HB.out
  · go_enter Tryz.func67, Tryz.ntmps67
    go_wp2_with (first | (go_at_call 73; refine (rsmall_any _ _).mono ?_; rintro e w' ⟨rfl, rfl⟩) | (go_at_call 74; refine (rgreat_any _ _).mono ?_; rintro e w' ⟨rfl, rfl⟩) | (go_at_call 75; refine (rdigit_any _ _).mono ?_; rintro e w' ⟨rfl, rfl⟩))
    go_at_call 77
    refine (signs_any _).mono ?_
    rintro e w' ⟨rfl, rfl⟩
    go_wp2
    go_loopw [12] (fun i wr => ∃ j : Nat, j ≤ 13 ∧ i = .int .i64 j ∧ Tab #[.string { data := #[45, 62] }, .string { data := #[58, 58] }, .string { data := #[59, 59] }, .string { data := #[40] }, .string { data := #[41] }, .string { data := #[44] }, .string { data := #[124] }, .string { data := #[61] }, .string { data := #[60] }, .string { data := #[43] }, .string { data := #[45] }, .string { data := #[42] }, .string { data := #[95] }] w.heap.size (w.heap.size + 1) w wr ∧ ∀ i b, i < j → sgns[i]? = some b → Lx.preB b (s.data.toList.drop a) = false) (fun i _ => 13 - (intOf i).toNat)
    case atStart => exact ⟨0, by omega, rfl, tab_new _ _, by intros; omega⟩
    case round =>
      obtain ⟨j, hj, rfl, htab, hno⟩ := hrel
      have HNO := Lib.hid hno
      have HB := Lib.hid htab.2
      by_cases hjl : j < 13
      · obtain ⟨b, hb, hkey, hz⟩ := sgn_get j hjl
        have hcell := (htab.1 j hjl).trans hb
        have HTAB := Lib.hid htab
        have HKEY := Lib.hid hkey
        have HSZ := Lib.hid hz
        clear htab hno hb hkey hz
        cases hq : Lx.preB b.data.toList (s.data.toList.drop a)
        · go_wp2_with (first | (go_at_call 65; refine (rat_any _ _ _ (by omega) hs HSZ.out _).mono ?_; rintro e w' ⟨rfl, rfl⟩) | (go_at_call 73; refine (rsmall_any _ _).mono ?_; rintro e w' ⟨rfl, rfl⟩) | (go_at_call 74; refine (rgreat_any _ _).mono ?_; rintro e w' ⟨rfl, rfl⟩) | (go_at_call 75; refine (rdigit_any _ _).mono ?_; rintro e w' ⟨rfl, rfl⟩))
          go_roundw
          case rel => exact ⟨j + 1, by omega, by go_num, HTAB.out, sgn_step HNO.out HKEY.out hq⟩
          case measure => simp [intOf]; omega
        · have HHIT := Lib.hid (sgn_hit hj HNO.out HKEY.out hq)
          have hz : b.size ≤ 1000 := HSZ.out
          go_wp2_with (first | (go_at_call 65; refine (rat_any _ _ _ (by omega) hs HSZ.out _).mono ?_; rintro e w' ⟨rfl, rfl⟩) | (go_at_call 73; refine (rsmall_any _ _).mono ?_; rintro e w' ⟨rfl, rfl⟩) | (go_at_call 74; refine (rgreat_any _ _).mono ?_; rintro e w' ⟨rfl, rfl⟩) | (go_at_call 75; refine (rdigit_any _ _).mono ?_; rintro e w' ⟨rfl, rfl⟩))
          go_quiet (fail)
          go_wp2
          go_ret2
          have e := HHIT.out
          exact one_ret (rest_hit HT.out e) (by decide) rfl rfl (below_drewN HB.out _)
      · clear htab
        have HNN := Lib.hid (sgn_none (s.data.toList.drop a) (fun i b hi hb => hno i b (by omega) hb))
        clear hno
        go_wp2
        go_ret2
        have e := HNN.out
        exact one_none (rest_none HT.out e) HB.out
end
theorem one_any (s : ByteArray) (a : Nat) (h : a < s.size) (hs : s.size ≤ 1099511627776) (w : World) : Calls Tryz.prog 67 #[.string s, .int .i64 a] w (OnePost s a w) := by
  cases h0 : Lx.isSmall s[a]
  · by_cases h2 : s[a].toNat = 95
    · exact one_line s a h hs w h2
    · cases h1 : Lx.isGreat s[a]
      · cases h3 : Lx.isDigit s[a]
        · cases h4 : Lx.isTick (s.data.toList.drop a)
          · exact one_rest s a h hs w h0 h1 (n95 h2) h3 h4
          · have hl := Lx.isTick_len h4
            rw [List.length_drop, ← sz] at hl
            have h5 : a + 1 < s.size := by omega
            rw [drop_at s a h, drop_at s (a + 1) h5] at h4
            simp only [Lx.isTick, Bool.and_eq_true, decide_eq_true_eq] at h4
            exact one_tick s a h hs w h0 h1 (n95 h2) h3 h4.1 h5 h4.2
        · exact one_digit s a h hs w h0 h1 (n95 h2) h3
      · exact one_great s a h hs w h0 h1
  · exact one_small s a h hs w h0
end Go.Proofs.YtmpmibebkflaiaaGreatDoor
namespace Go.Proofs.YtmpmibebkflaiaaGreatDoor
open Go.RowKit Go.Lib
set_option maxRecDepth 100000
set_option linter.unusedVariables false
set_option linter.unusedSectionVars false

theorem own_below {w w' : World} {B e size n : Nat} {v : Value} {xs : List Value} (h : w.ownsRow B e size v n xs) (hb : Below w.heap.size w w') : w'.ownsRow B e size v n xs := by
  refine ⟨h.1, ?_⟩
  rcases h.2 with hn | ⟨g, cap, cur, rfl, hg, hgg, rest⟩
  · exact .inl hn
  · exact .inr ⟨g, cap, cur, rfl, hg, by rw [hb.block g (Array.getElem?_eq_some_iff.1 hgg).1]; exact hgg, rest⟩

/-! ### remarks -/
theorem pre_pair (s : ByteArray) (k : Nat) (x y : UInt8) : Lx.preB [x, y] (s.data.toList.drop k) = (decide (k + 1 < s.size) && (s.extract k (k + 2)).toList == [x, y]) := by
  by_cases h : k + 1 < s.size
  · obtain ⟨e1, e2⟩ := pair_of s k h
    rw [e1, e2, pre_two]
    simp [h, Bool.beq_comm (a := x), Bool.beq_comm (a := y)]
  · have hl : (s.data.toList.drop k).length ≤ 1 := by rw [List.length_drop, ← sz]; omega
    rcases e : s.data.toList.drop k with _ | ⟨c, _ | ⟨d, t⟩⟩
    · simp [pre_nil, h]
    · simp [pre_short, h]
    · rw [e] at hl; simp at hl
theorem ropen_at (s : ByteArray) (k : Nat) (hi : k ≤ s.size) (hs : s.size ≤ 1099511627776) (w : World) : Calls Tryz.prog 65 #[.string s, .int .i64 (k : Int), .string { data := #[40, 42] }] w fun e w' => e = .returned (.bool (Lx.preB [40, 42] (s.data.toList.drop k))) ∧ w = w' := rat_any s _ k hi hs (by decide) w
theorem rclose_at (s : ByteArray) (k : Nat) (hi : k ≤ s.size) (hs : s.size ≤ 1099511627776) (w : World) : Calls Tryz.prog 65 #[.string s, .int .i64 (k : Int), .string { data := #[42, 41] }] w fun e w' => e = .returned (.bool (Lx.preB [42, 41] (s.data.toList.drop k))) ∧ w = w' := rat_any s _ k hi hs (by decide) w
set_option maxHeartbeats 1000000 in
theorem rremark_any (s : ByteArray) (a : Nat) (h : Lx.opens (s.data.toList.drop a) = true) (ha : a ≤ s.size) (hs : s.size ≤ 1099511627776) (w : World) :
    Calls Tryz.prog 66 #[.string s, .int .i64 a] w fun e w' => e = .returned (.int .i64 (remAns s.data.toList a 0)) ∧ w = w' := by
  go_enter Tryz.func66, Tryz.ntmps66
  go_wp2
  go_loop [1, 5] (fun i j => ∃ k d : Nat, a ≤ k ∧ k ≤ s.size ∧ i = .int .i64 k ∧ j = .int .i64 d ∧ d ≤ k ∧ (d = 0 → Lx.opens (s.data.toList.drop k) = true) ∧ remAns s.data.toList k d = remAns s.data.toList a 0) (fun i _ => s.size - (intOf i).toNat)
  case atStart => exact ⟨a, 0, by omega, by omega, rfl, rfl, by omega, fun _ => h, rfl⟩
  case round =>
    obtain ⟨k, d, hak, hk, rfl, rfl, hd, ho, hr⟩ := hrel
    have HO := Lib.hid ho
    have HR := Lib.hid hr
    clear ho hr
    have HO1 := Lib.hid (ropen_at s k hk hs)
    have HO2 := Lib.hid (rclose_at s k hk hs)
    by_cases hlt : k < s.size
    · have hp1 := pre_pair s k 40 42
      have hp2 := pre_pair s k 42 41
      have HP1 := Lib.hid hp1
      have HP2 := Lib.hid hp2
      clear hp1 hp2
      cases h1 : Lx.preB [40, 42] (s.data.toList.drop k)
      · have hd0 : d ≠ 0 := by
          intro e
          have := HO.out e
          rw [← preB_two, h1] at this
          simp at this
        cases h2 : Lx.preB [42, 41] (s.data.toList.drop k)
        · have HC := Lib.hid (show remAns s.data.toList k d = remAns s.data.toList (k + 1) d from by
            by_cases hl : k + 1 < s.size
            · have e1 := HP1.out
              have e2 := HP2.out
              rw [h1] at e1
              rw [h2] at e2
              simp only [hl, decide_true, Bool.true_and] at e1 e2
              exact rem_on s k d hl (by simpa using e1.symm) (by simpa using e2.symm)
            · rw [rem_end s k d hl, rem_end s (k + 1) d (by omega)])
          go_wp2_with (first | (go_at_call 65; with_reducible (refine (HO1.out _).mono ?_); rintro e w' ⟨rfl, rfl⟩) | (go_at_call 65; with_reducible (refine (HO2.out _).mono ?_); rintro e w' ⟨rfl, rfl⟩))
          go_round
          case rel => exact ⟨k + 1, d, by omega, by omega, by go_num, rfl, by omega, fun h => absurd h hd0, HC.out.symm.trans HR.out⟩
          case measure => simp [intOf]; omega
        · have e2 := HP2.out
          rw [h2] at e2
          have hl : k + 1 < s.size := by
            rcases Nat.lt_or_ge (k + 1) s.size with hl | hl
            · exact hl
            · simp [show ¬ k + 1 < s.size from by omega] at e2
          simp only [hl, decide_true, Bool.true_and] at e2
          have hc := rem_close s k d hl (by simpa using e2.symm) hd0
          by_cases hd1 : d = 1
          · subst hd1
            rw [if_pos rfl] at hc
            have HC := Lib.hid hc
            clear hc e2
            go_wp2_with (first | (go_at_call 65; with_reducible (refine (HO1.out _).mono ?_); rintro e w' ⟨rfl, rfl⟩) | (go_at_call 65; with_reducible (refine (HO2.out _).mono ?_); rintro e w' ⟨rfl, rfl⟩))
            go_ret
            exact ⟨ret_int (by rw [← HR.out, HC.out]; simp), rfl⟩
          · rw [if_neg hd1] at hc
            have HC := Lib.hid hc
            have hb : ((d : Int) - 1 == 0) = false := by simp; omega
            clear hc e2
            go_wp2_with (first | (go_at_call 65; with_reducible (refine (HO1.out _).mono ?_); rintro e w' ⟨rfl, rfl⟩) | (go_at_call 65; with_reducible (refine (HO2.out _).mono ?_); rintro e w' ⟨rfl, rfl⟩))
            go_round
            case rel => exact ⟨k + 2, d - 1, by omega, by omega, by go_num, by rw [Int.ofNat_sub (by omega)]; rfl, by omega, fun h => absurd h (by omega), HC.out.symm.trans HR.out⟩
            case measure => simp [intOf]; omega
      · have e1 := HP1.out
        rw [h1] at e1
        have hl : k + 1 < s.size := by
          rcases Nat.lt_or_ge (k + 1) s.size with hl | hl
          · exact hl
          · simp [show ¬ k + 1 < s.size from by omega] at e1
        simp only [hl, decide_true, Bool.true_and] at e1
        have HC := Lib.hid (rem_open s k d hl (by simpa using e1.symm))
        clear e1
        go_wp2_with (first | (go_at_call 65; with_reducible (refine (HO1.out _).mono ?_); rintro e w' ⟨rfl, rfl⟩))
        go_round
        case rel => exact ⟨k + 2, d + 1, by omega, by omega, by go_num, by go_num, by omega, fun h => absurd h (by omega), HC.out.symm.trans HR.out⟩
        case measure => simp [intOf]; omega
    · go_wp2
      go_ret
      exact ⟨ret_int (by rw [← HR.out, rem_end s k d (by omega)]; rfl), rfl⟩

/-! ### kinds -/
theorem name_kind (w : List UInt8) : Lx.nameKind w ≠ 7 ∧ Lx.nameKind w ≠ 0 := by
  unfold Lx.nameKind
  split
  · decide
  · split <;> decide
theorem tok_kind (c : UInt8) (t : List UInt8) : (Lx.tokF (c :: t)).1 ≠ 0 ∧ Lx.begins (c :: t) = (Lx.isWhite c || decide ((Lx.tokF (c :: t)).1 ≠ 7)) := by
  have hs : decide (c.toNat = 95) = true → 0 < Lx.signN (c :: t) := by
    intro h
    have : c = 95 := UInt8.toNat_inj.1 (by simpa using h)
    subst this
    match t with
    | [] => decide
    | y :: t => simp [Lx.signN, Lx.twoSign, Lx.ones]
  unfold Lx.tokF Lx.begins
  cases h1 : Lx.isSmall c
  · by_cases h2 : c.toNat = 95
    · have := hs (by simp [h2])
      have hk := name_kind (List.take (Lx.runN [39] (c :: t)) (c :: t))
      simp [h1, h2, this, hk.1, hk.2]
    · cases h3 : Lx.isGreat c
      · cases h4 : Lx.isDigit c
        · cases h5 : Lx.isTick (c :: t)
          · by_cases h6 : 0 < Lx.signN (c :: t)
            · simp [h1, h2, h3, h4, h5, h6]
            · simp [h1, h2, h3, h4, h5, h6]
          · simp [h1, h2, h3, h4, h5]
        · simp [h1, h2, h3, h4]
      · simp [h1, h2, h3]
  · have hk := name_kind (List.take (Lx.runN [39] (c :: t)) (c :: t))
    simp [h1, hk.1, hk.2]
theorem rkind_at (s : ByteArray) (a : Nat) (h : a < s.size) : (Lx.tokF (s.data.toList.drop a)).1 ≠ 0 ∧ Lx.begins (s.data.toList.drop a) = (Lx.isWhite s[a] || decide ((Lx.tokF (s.data.toList.drop a)).1 ≠ 7)) := by
  rw [drop_at s a h]; exact tok_kind _ _
theorem one_yes (s : ByteArray) (a : Nat) (h : a < s.size) (hs : s.size ≤ 1099511627776) (w : World) (k n : Nat) (e : Lx.tokF (s.data.toList.drop a) = (k, n)) (hk : k ≠ 7) : Calls Tryz.prog 67 #[.string s, .int .i64 a] w fun e w' => e = .returned (.tuple #[.int .i64 (k : Int), .int .i64 ((a : Int) + n)]) ∧ Below w.heap.size w w' := by
  refine (one_any s a h hs w).mono ?_
  rintro e' w' ⟨rfl, hb⟩
  refine ⟨ret_pair ?_ ?_, hb⟩
  · simp [oneK, e, hk]
  · simp [oneJ, e, hk]
theorem one_not (s : ByteArray) (a : Nat) (h : a < s.size) (hs : s.size ≤ 1099511627776) (w : World) (e : (Lx.tokF (s.data.toList.drop a)).1 = 7) : Calls Tryz.prog 67 #[.string s, .int .i64 a] w fun e w' => e = .returned (.tuple #[.int .i64 0, .int .i64 0]) ∧ Below w.heap.size w w' := by
  refine (one_any s a h hs w).mono ?_
  rintro e' w' ⟨rfl, hb⟩
  refine ⟨ret_pair ?_ ?_, hb⟩
  · simp [oneK, e]
  · simp [oneJ, e]
theorem tok_err (s : ByteArray) (a : Nat) (h : a < s.size) (e : (Lx.tokF (s.data.toList.drop a)).1 = 7) : Lx.tokF (s.data.toList.drop a) = (7, Lx.errN (s.data.toList.drop (a + 1)) + 1) := by
  have hk := name_kind ((s.data.toList.drop a).take (Lx.runN [39] (s.data.toList.drop a)))
  rw [tokF_eq s a h] at e ⊢
  split at e
  · exact absurd e hk.1
  · rename_i h1
    rw [if_neg h1]
    split at e
    · simp at e
    · rename_i h2
      rw [if_neg h2]
      split at e
      · simp at e
      · rename_i h3
        rw [if_neg h3]
        split at e
        · simp at e
        · rename_i h4
          rw [if_neg h4]
          split at e
          · simp at e
          · rename_i h5
            rw [if_neg h5]

set_option maxHeartbeats 2000000 in
theorem rlex_any (s : ByteArray) (hs : s.size ≤ 1099511627776) (w : World) : Calls Tryz.prog 46 #[.string s] w (LexPost s w) := by
  obtain ⟨i0, hi, hz0, hz1, hz2⟩ := info_parts Tryz.infoTok
  go_enter Tryz.func46, Tryz.ntmps46
  go_wp2
  go_loopw [3, 4] (fun v i wr => ∃ (k : Nat) (acc : List Lx.Tok), k ≤ s.size ∧ i = .int .i64 k ∧ LexRel s w acc k v wr) (fun _ i _ => s.size - (intOf i).toNat)
  case atStart => exact ⟨0, [], by omega, rfl, World.ownsRow_made w #[] 0 (Nat.le_refl _) (Nat.zero_le _) rfl, (Below.refl _ _).alloc (Nat.le_refl _) _, by simp, rfl⟩
  case round =>
    obtain ⟨k, acc, hk, rfl, hrel⟩ := hrel
    have HR := Lib.hid hrel
    clear hrel
    have HO1 := Lib.hid (ropen_at s k hk hs)
    have hal : acc.length ≤ k := HR.out.2.2.1
    have hsz : w.heap.size ≤ wr.heap.size := HR.out.2.1.size
    by_cases hlt : k < s.size
    · cases hw : Lx.isWhite s[k]
      · cases ho : Lx.preB [40, 42] (s.data.toList.drop k)
        · have ho' : Lx.opens (s.data.toList.drop k) = false := by rw [← preB_two]; exact ho
          obtain ⟨kd, n, e1⟩ : ∃ kd n, Lx.tokF (s.data.toList.drop k) = (kd, n) := ⟨_, _, rfl⟩
          have hb := Lx.tok_bounds s[k] (s.data.toList.drop (k + 1))
          rw [← drop_at s k hlt, e1, List.length_drop, ← sz] at hb
          obtain ⟨hb1, hb2⟩ := hb
          have ha := Lx.at_tok s.data.toList k (by simpa using hlt) hw ho'
          rw [e1] at ha
          have HA := Lib.hid ha
          clear ho' ha
          by_cases h7 : kd = 7
          · subst h7
            have HT := Lib.hid (one_not s k hlt hs wr (by rw [e1]))
            have e2 := tok_err s k hlt (by rw [e1])
            rw [e1] at e2
            have hn : n = Lx.errN (s.data.toList.drop (k + 1)) + 1 := congrArg Prod.snd e2
            have HN := Lib.hid hn
            clear e1 e2 hn
            go_wp2_with (first | (go_at_call 64; refine (rwhite_any _ _).mono ?_; rintro e w' ⟨rfl, rfl⟩) | (go_at_call 65; with_reducible (refine (HO1.out _).mono ?_); rintro e w' ⟨rfl, rfl⟩) | (go_at_call 67; with_reducible (refine HT.out.mono ?_); rintro e w1 ⟨rfl, hb1⟩; have HB1 := Lib.hid hb1; clear hb1))
            have hz1' : wr.heap.size ≤ w1.heap.size := HB1.out.size
            go_loopw [7] (fun i wq => ∃ m : Nat, k + 1 ≤ m ∧ m ≤ s.size ∧ i = .int .i64 m ∧ m - (k + 1) ≤ Lx.errN (s.data.toList.drop (k + 1)) ∧ Below wr.heap.size wr wq) (fun i _ => s.size - (intOf i).toNat)
            case atStart => exact ⟨k + 1, by omega, by omega, by go_num, by omega, HB1.out⟩
            case round =>
              obtain ⟨m, hm1, hm2, rfl, hme, hbq⟩ := hrel
              have HME := Lib.hid hme
              have HBQ := Lib.hid hbq
              have hsq := hbq.size
              clear hme hbq
              by_cases hlm : m < s.size
              · have hkm := rkind_at s m hlm
                cases hwm : Lx.isWhite s[m]
                · by_cases h7 : (Lx.tokF (s.data.toList.drop m)).1 = 7
                  · have HS := Lib.hid (er_step hlm hm1 HME.out (by rw [hkm.2, hwm]; simp [h7]))
                    have HT2 := Lib.hid (one_not s m hlm hs wr h7)
                    clear hkm h7
                    go_wp2_with (first | (go_at_call 64; refine (rwhite_any _ _).mono ?_; rintro e w' ⟨rfl, rfl⟩) | (go_at_call 67; with_reducible (refine HT2.out.mono ?_); rintro e w2 ⟨rfl, hb2⟩; have HB2 := Lib.hid hb2; clear hb2))
                    go_roundw
                    case rel => exact ⟨m + 1, by omega, by omega, by go_num, HS.out, HBQ.out.trans (HB2.out.mono hsq)⟩
                    case measure => simp [intOf]; omega
                  · have HMN := Lib.hid (show m = k + n from by have := er_stop hlm hm1 HME.out (by rw [hkm.2, hwm]; simp [h7]); have := HN.out; omega)
                    obtain ⟨kd2, n2, e2⟩ : ∃ kd n, Lx.tokF (s.data.toList.drop m) = (kd, n) := ⟨_, _, rfl⟩
                    rw [e2] at hkm h7
                    have HT2 := Lib.hid (one_yes s m hlm hs wr kd2 n2 e2 h7)
                    have h0 : ((kd2 : Int) == 0) = false := by have := hkm.1; simp at this; simp; omega
                    have h0' : ((kd2 : Int) != 0) = true := by have := hkm.1; simp at this; simp; omega
                    clear hkm h7 e2
                    go_wp2_with (first | (go_at_call 64; refine (rwhite_any _ _).mono ?_; rintro e w' ⟨rfl, rfl⟩) | (go_at_call 67; with_reducible (refine HT2.out.mono ?_); rintro e w2 ⟨rfl, hb2⟩; have HB2 := Lib.hid hb2; have hsq2 := hb2.size; clear hb2) | (at_builtin; refine wpList_append_own _ rfl _ _ 51 rfl w.heap.size 68 i0 _ 3 24 Tryz.underlying51 hi hz0 hz1 hz2 rfl (by decide) _ _ _ rfl ((own_below HR.out.1 (HBQ.out.trans (HB2.out.mono hsq))).alloc _) ⟨_, 0, none⟩ 1 1 [.int .i64 7, .int .i64 (k : Int), .int .i64 (m : Int)] rfl rfl (tok_news _ _ _ _) (tok_plain _ _ _) (by unfold maxLen; omega) (by omega) (by simp; omega) ?_; intro v' w1 hown' hgrow _))
                    go_roundw
                    case rel =>
                      have hmn := HMN.out
                      refine ⟨m, acc ++ [⟨7, k, m⟩], by omega, rfl, ?_, ?_, ?_, ?_⟩
                      · rw [← toks_snoc, List.length_append]
                        exact hown'
                      · exact ((HR.out.2.1.trans ((HBQ.out.trans (HB2.out.mono hsq)).mono hsz)).alloc (by omega) _).grown hgrow (by simp; omega) (fun g e => (HR.out.1.lt g e).1)
                      · rw [List.length_append]; simp; omega
                      · rw [List.append_assoc, List.singleton_append, hmn, ← HA.out]; exact HR.out.2.2.2
                    case measure => simp [intOf]; omega
                · have HMN := Lib.hid (show m = k + n from by have := er_stop hlm hm1 HME.out (by rw [hkm.2, hwm]; simp); have := HN.out; omega)
                  clear hkm
                  go_wp2_with (first | (go_at_call 64; refine (rwhite_any _ _).mono ?_; rintro e w' ⟨rfl, rfl⟩) | (at_builtin; refine wpList_append_own _ rfl _ _ 51 rfl w.heap.size 68 i0 _ 3 24 Tryz.underlying51 hi hz0 hz1 hz2 rfl (by decide) _ _ _ rfl ((own_below HR.out.1 HBQ.out).alloc _) ⟨_, 0, none⟩ 1 1 [.int .i64 7, .int .i64 (k : Int), .int .i64 (m : Int)] rfl rfl (tok_news _ _ _ _) (tok_plain _ _ _) (by unfold maxLen; omega) (by omega) (by simp; omega) ?_; intro v' w1 hown' hgrow _))
                  go_roundw
                  case rel =>
                    have hmn := HMN.out
                    refine ⟨m, acc ++ [⟨7, k, m⟩], by omega, rfl, ?_, ?_, ?_, ?_⟩
                    · rw [← toks_snoc, List.length_append]
                      exact hown'
                    · exact ((HR.out.2.1.trans (HBQ.out.mono hsz)).alloc (by omega) _).grown hgrow (by simp; omega) (fun g e => (HR.out.1.lt g e).1)
                    · rw [List.length_append]; simp; omega
                    · rw [List.append_assoc, List.singleton_append, hmn, ← HA.out]; exact HR.out.2.2.2
                  case measure => simp [intOf]; omega
              · have HMN := Lib.hid (show m = k + n from by have := er_all hlm hm2 hm1 HME.out; have := HN.out; omega)
                go_wp2_with (first | (go_at_call 64; refine (rwhite_any _ _).mono ?_; rintro e w' ⟨rfl, rfl⟩) | (at_builtin; refine wpList_append_own _ rfl _ _ 51 rfl w.heap.size 68 i0 _ 3 24 Tryz.underlying51 hi hz0 hz1 hz2 rfl (by decide) _ _ _ rfl ((own_below HR.out.1 HBQ.out).alloc _) ⟨_, 0, none⟩ 1 1 [.int .i64 7, .int .i64 (k : Int), .int .i64 (m : Int)] rfl rfl (tok_news _ _ _ _) (tok_plain _ _ _) (by unfold maxLen; omega) (by omega) (by simp; omega) ?_; intro v' w1 hown' hgrow _))
                go_roundw
                case rel =>
                  have hmn := HMN.out
                  refine ⟨m, acc ++ [⟨7, k, m⟩], by omega, rfl, ?_, ?_, ?_, ?_⟩
                  · rw [← toks_snoc, List.length_append]
                    exact hown'
                  · exact ((HR.out.2.1.trans (HBQ.out.mono hsz)).alloc (by omega) _).grown hgrow (by simp; omega) (fun g e => (HR.out.1.lt g e).1)
                  · rw [List.length_append]; simp; omega
                  · rw [List.append_assoc, List.singleton_append, hmn, ← HA.out]; exact HR.out.2.2.2
                case measure => simp [intOf]; omega
          · have HT := Lib.hid (one_yes s k hlt hs wr kd n e1 h7)
            have h0 : ((kd : Int) == 0) = false := by
              have := (rkind_at s k hlt).1
              rw [e1] at this
              simp; omega
            clear e1
            go_wp2_with (first | (go_at_call 64; refine (rwhite_any _ _).mono ?_; rintro e w' ⟨rfl, rfl⟩) | (go_at_call 65; with_reducible (refine (HO1.out _).mono ?_); rintro e w' ⟨rfl, rfl⟩) | (go_at_call 67; with_reducible (refine HT.out.mono ?_); rintro e w1 ⟨rfl, hb1⟩; have HB1 := Lib.hid hb1; clear hb1; have hz1' : wr.heap.size ≤ w1.heap.size := HB1.out.size) | (at_builtin; refine wpList_append_own _ rfl _ _ 51 rfl w.heap.size 68 i0 _ 3 24 Tryz.underlying51 hi hz0 hz1 hz2 rfl (by decide) _ _ _ rfl ((own_below HR.out.1 HB1.out).alloc _) ⟨_, 0, none⟩ 1 1 [.int .i64 (kd : Int), .int .i64 (k : Int), .int .i64 ((k : Int) + n)] rfl rfl (tok_news _ _ _ _) (tok_plain _ _ _) (by unfold maxLen; omega) (by omega) (by simp; omega) ?_; intro v' w1 hown' hgrow _))
            go_roundw
            case rel =>
              refine ⟨k + n, acc ++ [⟨kd, k, k + n⟩], by omega, by go_num, ?_, ?_, ?_, ?_⟩
              · rw [← toks_snoc, List.length_append]
                exact hown'
              · exact ((HR.out.2.1.trans (HB1.out.mono hsz)).alloc (by omega) _).grown hgrow (by simp; omega) (fun g e => (HR.out.1.lt g e).1)
              · rw [List.length_append]; simp; omega
              · rw [List.append_assoc, List.singleton_append, ← HA.out]; exact HR.out.2.2.2
            case measure => simp [intOf]; omega
        · have ho' : Lx.opens (s.data.toList.drop k) = true := by rw [← preB_two]; exact ho
          cases hr : Lx.remN 0 (s.data.toList.drop k) with
          | none =>
            have ha := Lx.at_none s.data.toList k (by simpa using hlt) hw ho' hr
            have ht := rremark_any s k ho' hk (by omega) wr
            unfold remAns at ht
            rw [hr] at ht
            have HT := Lib.hid ht
            have HA := Lib.hid ha
            have H1 := Lib.hid hr
            clear ht ha hr ho'
            go_wp2_with (first | (go_at_call 64; refine (rwhite_any _ _).mono ?_; rintro e w' ⟨rfl, rfl⟩) | (go_at_call 65; with_reducible (refine (HO1.out _).mono ?_); rintro e w' ⟨rfl, rfl⟩) | (go_at_call 66; refine HT.out.mono ?_; rintro e w' ⟨rfl, rfl⟩) | (at_builtin; refine wpList_append_own _ rfl _ _ 51 rfl w.heap.size 68 i0 _ 3 24 Tryz.underlying51 hi hz0 hz1 hz2 rfl (by decide) _ _ _ rfl (HR.out.1.alloc _) ⟨_, 0, none⟩ 1 1 [.int .i64 7, .int .i64 (k : Int), .int .i64 (s.size : Int)] rfl rfl (tok_news _ _ _ _) (tok_plain _ _ _) (by unfold maxLen; omega) (by omega) (by simp; omega) ?_; intro v' w1 hown' hgrow _))
            go_ret
            have e := HR.out.2.2.2
            rw [HA.out] at e
            refine ⟨_, rfl, ?_, (HR.out.2.1.alloc (by omega) _).grown hgrow (by simp; omega) (fun g e => (HR.out.1.lt g e).1)⟩
            rw [← e, ← toks_snoc, List.length_append]
            exact hown'
          | some n =>
            have ha := Lx.at_some s.data.toList k (by simpa using hlt) hw ho' n hr
            have hb := Lx.rem_bounds _ _ _ (Nat.le_refl _) n hr
            rw [List.length_drop, ← sz] at hb
            obtain ⟨hb1, hb2⟩ := hb
            have ht := rremark_any s k ho' hk (by omega) wr
            unfold remAns at ht
            rw [hr] at ht
            have HT := Lib.hid ht
            have HA := Lib.hid ha
            have H1 := Lib.hid hr
            clear ht ha hr ho'
            go_wp2_with (first | (go_at_call 64; refine (rwhite_any _ _).mono ?_; rintro e w' ⟨rfl, rfl⟩) | (go_at_call 65; with_reducible (refine (HO1.out _).mono ?_); rintro e w' ⟨rfl, rfl⟩) | (go_at_call 66; refine HT.out.mono ?_; rintro e w' ⟨rfl, rfl⟩))
            go_roundw
            case rel => exact ⟨k + n, acc, by omega, by go_num, rel_move HR.out (by omega) HA.out⟩
            case measure => simp [intOf]; omega
      · go_wp2_with (first | (go_at_call 64; refine (rwhite_any _ _).mono ?_; rintro e w' ⟨rfl, rfl⟩))
        go_roundw
        case rel => exact ⟨k + 1, acc, by omega, by go_num, rel_move HR.out (by omega) (Lx.at_white _ _ (by simpa using hlt) hw)⟩
        case measure => simp [intOf]; omega
    · go_wp2
      go_ret
      have e := HR.out.2.2.2
      rw [Lx.at_end _ _ (by rw [← sz]; omega), List.append_nil] at e
      refine ⟨_, rfl, ?_, HR.out.2.1⟩
      rw [← e]
      exact HR.out.1
end Go.Proofs.YtmpmibebkflaiaaGreatDoor
