/- The contract of the document's reader of one token: names. -/
import Derived.Test.YteialkkpoikelaaRefC
namespace Go.Proofs.Yteialkkpoikelaa
open Go.RowKit Go.Lib
set_option maxRecDepth 100000
set_option linter.unusedVariables false

theorem cut_run {s : ByteArray} {a k n : Nat} (hk : k = a + n) : (s.extract a k).toList = (s.data.toList.drop a).take n := by
  rw [cut_toL, hk, Nat.add_sub_cancel_left]
theorem no_step {l : List (List UInt8)} {c : List UInt8} {j : Nat} {b0 : ByteArray} (h : ∀ i b, i < j → l[i]? = some b → (b == c) = false) (h0 : l[j]? = some b0.data.toList) (hq : (b0.toList == c) = false) : ∀ i b, i < j + 1 → l[i]? = some b → (b == c) = false := by
  intro i b hi hb
  rcases Nat.lt_succ_iff_lt_or_eq.1 hi with hi | rfl
  · exact h i b hi hb
  · rw [h0] at hb
    injection hb with hb
    rw [← hb, ← toL]; exact hq
section
variable {s : ByteArray} {a k n : Nat} {w : World} (ht : Lx.tokF (s.data.toList.drop a) = (Lx.nameKind ((s.data.toList.drop a).take n), n)) (hk : k = a + n)
include ht hk
theorem low_sign (he : ((s.extract a k).toList == [95]) = true) : Lx.tokF (s.data.toList.drop a) = (6, n) := by
  rw [cut_run hk] at he
  rw [ht, kind_sign he]
theorem low_key (he : ((s.extract a k).toList == [95]) = false) {j : Nat} {b : List UInt8} (hj : Lx.keys[j]? = some b) (hb : (b == (s.extract a k).toList) = true) : Lx.tokF (s.data.toList.drop a) = (5, n) := by
  rw [cut_run hk] at he hb
  rw [ht, kind_key he hj hb]
theorem low_name (he : ((s.extract a k).toList == [95]) = false) (hn : ∀ j b, j < 13 → Lx.keys[j]? = some b → (b == (s.extract a k).toList) = false) : Lx.tokF (s.data.toList.drop a) = (1, n) := by
  rw [cut_run hk] at he hn
  rw [ht, kind_name he hn]
end
section
variable (s : ByteArray) (a : Nat) (h : a < s.size) (hs : s.size ≤ 1099511627776) (w : World)
include h hs
set_option maxHeartbeats 1000000 in
theorem one_small (h1 : Lx.isSmall s[a] = true) : Calls Try.prog 26 #[.string s, .int .i64 a] w (OnePost s a w) := by
  have h2 : Lx.isGreat s[a] = false := by simp [Lx.isSmall] at h1; simp [Lx.isGreat]; omega
  have ht := tokF_eq s a h
  simp only [h1, Bool.true_or, if_true] at ht
  have HT := Lib.hid ht
  have HN := Lib.hid (show Lx.nameCh [39] s[a] = true from by simp [Lx.nameCh, Lx.isLetter, h1])
  clear ht
  go_enter Try.func26, Try.ntmps26
  go_wp2_with (first | (go_at_call 36; refine (rsmall_any _ _).mono ?_; rintro e w' ⟨rfl, rfl⟩) | (go_at_call 37; refine (rgreat_any _ _).mono ?_; rintro e w' ⟨rfl, rfl⟩) | (go_at_call 38; refine (rdigit_any _ _).mono ?_; rintro e w' ⟨rfl, rfl⟩))
  go_loop [7] (fun i => ∃ k : Nat, a + 1 ≤ k ∧ k ≤ s.size ∧ i = .int .i64 k ∧ k - a ≤ Lx.runN [39] (s.data.toList.drop a)) (fun i => s.size - (intOf i).toNat)
  case atStart => exact ⟨a + 1, by omega, by omega, by go_num, by have := ch_step h (Nat.le_refl a) (by omega) HN.out; omega⟩
  case round =>
    obtain ⟨k, hak, hk, rfl, hr⟩ := hrel
    have HR := Lib.hid hr
    clear hr
    by_cases hlt : k < s.size
    · go_wp2_with (first | (go_at_call 36; refine (rsmall_any _ _).mono ?_; rintro e w' ⟨rfl, rfl⟩) | (go_at_call 37; refine (rgreat_any _ _).mono ?_; rintro e w' ⟨rfl, rfl⟩) | (go_at_call 38; refine (rdigit_any _ _).mono ?_; rintro e w' ⟨rfl, rfl⟩))
      · go_round
        case rel => exact ⟨k + 1, by omega, by omega, by go_num, ch_step hlt (by omega) HR.out (ch_of (.inl ‹_›))⟩
        case measure => simp [intOf]; omega
      · go_round
        case rel => exact ⟨k + 1, by omega, by omega, by go_num, ch_step hlt (by omega) HR.out (ch_of (.inr (.inl ‹_›)))⟩
        case measure => simp [intOf]; omega
      · go_round
        case rel => exact ⟨k + 1, by omega, by omega, by go_num, ch_step hlt (by omega) HR.out (ch_of (.inr (.inr (.inl ‹_›))))⟩
        case measure => simp [intOf]; omega
      · go_round
        case rel => exact ⟨k + 1, by omega, by omega, by go_num, ch_step hlt (by omega) HR.out (ch_of (.inr (.inr (.inr (.inl ‹_›)))))⟩
        case measure => simp [intOf]; omega
      · go_round
        case rel => exact ⟨k + 1, by omega, by omega, by go_num, ch_step hlt (by omega) HR.out (ch_of (.inr (.inr (.inr (.inr ‹_›)))))⟩
        case measure => simp [intOf]; omega
      · have hkk := ch_stop hlt (by omega) HR.out (ch_not ‹_› ‹_› ‹_› ‹_ ∧ _›)
        go_ret2
        exact one_ret (low_sign HT.out hkk ‹_›) (by decide) rfl (by omega) (Below.refl _ _)
      · have HK := Lib.hid (ch_stop hlt (by omega) HR.out (ch_not ‹_› ‹_› ‹_› ‹_ ∧ _›))
        have HE := Lib.hid (show ((s.extract a k).toList == [95]) = false from ‹_›)
        go_at_call 39
        refine (words_any _).mono ?_
        rintro e w' ⟨rfl, rfl⟩
        go_wp2
        go_loopw [10] (fun i wr => ∃ j : Nat, j ≤ 13 ∧ i = .int .i64 j ∧ Tab #[.string { data := #[108, 101, 116] }, .string { data := #[114, 101, 99] }, .string { data := #[105, 110] }, .string { data := #[102, 117, 110] }, .string { data := #[105, 102] }, .string { data := #[116, 104, 101, 110] }, .string { data := #[101, 108, 115, 101] }, .string { data := #[109, 97, 116, 99, 104] }, .string { data := #[119, 105, 116, 104] }, .string { data := #[116, 121, 112, 101] }, .string { data := #[111, 102] }, .string { data := #[116, 114, 117, 101] }, .string { data := #[102, 97, 108, 115, 101] }] w.heap.size (w.heap.size + 1) w wr ∧ ∀ i b, i < j → Lx.keys[i]? = some b → (b == (s.extract a k).toList) = false) (fun i _ => 13 - (intOf i).toNat)
        case atStart => exact ⟨0, by omega, rfl, tab_new _ _, by intros; omega⟩
        case round =>
          obtain ⟨j, hj, rfl, htab, hno⟩ := hrel
          have HNO := Lib.hid hno
          have HB := Lib.hid htab.2
          by_cases hjl : j < 13
          · obtain ⟨b, hb, hkey⟩ := key_at j hjl
            have hcell := (htab.1 j hjl).trans hb
            have HTAB := Lib.hid htab
            have HKEY := Lib.hid hkey
            clear htab hno hb hkey
            cases hq : (b.toList == (s.extract a k).toList)
            · go_wp2
              go_roundw
              case rel => exact ⟨j + 1, by omega, by go_num, HTAB.out, no_step HNO.out HKEY.out hq⟩
              case measure => simp [intOf]; omega
            · go_wp2
              go_ret2
              have e := HK.out
              exact one_ret (low_key HT.out e HE.out HKEY.out (by rw [← toL]; exact hq)) (by decide) rfl (by omega) HB.out
          · clear htab hno
            go_wp2
            go_ret2
            have e := HK.out
            exact one_ret (low_name HT.out e HE.out (fun i b hi => HNO.out i b (by omega))) (by decide) rfl (by omega) HB.out
    · go_wp2_with (first | (go_at_call 36; refine (rsmall_any _ _).mono ?_; rintro e w' ⟨rfl, rfl⟩) | (go_at_call 37; refine (rgreat_any _ _).mono ?_; rintro e w' ⟨rfl, rfl⟩) | (go_at_call 38; refine (rdigit_any _ _).mono ?_; rintro e w' ⟨rfl, rfl⟩))
      · have hkk := ch_all hlt hk (by omega) HR.out
        go_ret2
        exact one_ret (low_sign HT.out hkk ‹_›) (by decide) rfl (by omega) (Below.refl _ _)
      · have HK := Lib.hid (ch_all hlt hk (by omega) HR.out)
        have HE := Lib.hid (show ((s.extract a k).toList == [95]) = false from ‹_›)
        go_at_call 39
        refine (words_any _).mono ?_
        rintro e w' ⟨rfl, rfl⟩
        go_wp2
        go_loopw [10] (fun i wr => ∃ j : Nat, j ≤ 13 ∧ i = .int .i64 j ∧ Tab #[.string { data := #[108, 101, 116] }, .string { data := #[114, 101, 99] }, .string { data := #[105, 110] }, .string { data := #[102, 117, 110] }, .string { data := #[105, 102] }, .string { data := #[116, 104, 101, 110] }, .string { data := #[101, 108, 115, 101] }, .string { data := #[109, 97, 116, 99, 104] }, .string { data := #[119, 105, 116, 104] }, .string { data := #[116, 121, 112, 101] }, .string { data := #[111, 102] }, .string { data := #[116, 114, 117, 101] }, .string { data := #[102, 97, 108, 115, 101] }] w.heap.size (w.heap.size + 1) w wr ∧ ∀ i b, i < j → Lx.keys[i]? = some b → (b == (s.extract a k).toList) = false) (fun i _ => 13 - (intOf i).toNat)
        case atStart => exact ⟨0, by omega, rfl, tab_new _ _, by intros; omega⟩
        case round =>
          obtain ⟨j, hj, rfl, htab, hno⟩ := hrel
          have HNO := Lib.hid hno
          have HB := Lib.hid htab.2
          by_cases hjl : j < 13
          · obtain ⟨b, hb, hkey⟩ := key_at j hjl
            have hcell := (htab.1 j hjl).trans hb
            have HTAB := Lib.hid htab
            have HKEY := Lib.hid hkey
            clear htab hno hb hkey
            cases hq : (b.toList == (s.extract a k).toList)
            · go_wp2
              go_roundw
              case rel => exact ⟨j + 1, by omega, by go_num, HTAB.out, no_step HNO.out HKEY.out hq⟩
              case measure => simp [intOf]; omega
            · go_wp2
              go_ret2
              have e := HK.out
              exact one_ret (low_key HT.out e HE.out HKEY.out (by rw [← toL]; exact hq)) (by decide) rfl (by omega) HB.out
          · clear htab hno
            go_wp2
            go_ret2
            have e := HK.out
            exact one_ret (low_name HT.out e HE.out (fun i b hi => HNO.out i b (by omega))) (by decide) rfl (by omega) HB.out
set_option maxHeartbeats 1000000 in
theorem one_line (h1 : s[a].toNat = 95) : Calls Try.prog 26 #[.string s, .int .i64 a] w (OnePost s a w) := by
  have h0 : Lx.isSmall s[a] = false := by simp [Lx.isSmall, h1]
  have h2 : Lx.isGreat s[a] = false := by simp [Lx.isGreat, h1]
  have h3 := b95 h1
  have ht := tokF_eq s a h
  simp only [h0, h1, Bool.false_or, decide_true, if_true] at ht
  have HT := Lib.hid ht
  have HN := Lib.hid (show Lx.nameCh [39] s[a] = true from by simp [Lx.nameCh, Lx.isLetter, h1])
  clear ht h1
  go_enter Try.func26, Try.ntmps26
  go_wp2_with (first | (go_at_call 36; refine (rsmall_any _ _).mono ?_; rintro e w' ⟨rfl, rfl⟩) | (go_at_call 37; refine (rgreat_any _ _).mono ?_; rintro e w' ⟨rfl, rfl⟩) | (go_at_call 38; refine (rdigit_any _ _).mono ?_; rintro e w' ⟨rfl, rfl⟩))
  go_loop [7] (fun i => ∃ k : Nat, a + 1 ≤ k ∧ k ≤ s.size ∧ i = .int .i64 k ∧ k - a ≤ Lx.runN [39] (s.data.toList.drop a)) (fun i => s.size - (intOf i).toNat)
  case atStart => exact ⟨a + 1, by omega, by omega, by go_num, by have := ch_step h (Nat.le_refl a) (by omega) HN.out; omega⟩
  case round =>
    obtain ⟨k, hak, hk, rfl, hr⟩ := hrel
    have HR := Lib.hid hr
    clear hr
    by_cases hlt : k < s.size
    · go_wp2_with (first | (go_at_call 36; refine (rsmall_any _ _).mono ?_; rintro e w' ⟨rfl, rfl⟩) | (go_at_call 37; refine (rgreat_any _ _).mono ?_; rintro e w' ⟨rfl, rfl⟩) | (go_at_call 38; refine (rdigit_any _ _).mono ?_; rintro e w' ⟨rfl, rfl⟩))
      · go_round
        case rel => exact ⟨k + 1, by omega, by omega, by go_num, ch_step hlt (by omega) HR.out (ch_of (.inl ‹_›))⟩
        case measure => simp [intOf]; omega
      · go_round
        case rel => exact ⟨k + 1, by omega, by omega, by go_num, ch_step hlt (by omega) HR.out (ch_of (.inr (.inl ‹_›)))⟩
        case measure => simp [intOf]; omega
      · go_round
        case rel => exact ⟨k + 1, by omega, by omega, by go_num, ch_step hlt (by omega) HR.out (ch_of (.inr (.inr (.inl ‹_›))))⟩
        case measure => simp [intOf]; omega
      · go_round
        case rel => exact ⟨k + 1, by omega, by omega, by go_num, ch_step hlt (by omega) HR.out (ch_of (.inr (.inr (.inr (.inl ‹_›)))))⟩
        case measure => simp [intOf]; omega
      · go_round
        case rel => exact ⟨k + 1, by omega, by omega, by go_num, ch_step hlt (by omega) HR.out (ch_of (.inr (.inr (.inr (.inr ‹_›)))))⟩
        case measure => simp [intOf]; omega
      · have hkk := ch_stop hlt (by omega) HR.out (ch_not ‹_› ‹_› ‹_› ‹_ ∧ _›)
        go_ret2
        exact one_ret (low_sign HT.out hkk ‹_›) (by decide) rfl (by omega) (Below.refl _ _)
      · have HK := Lib.hid (ch_stop hlt (by omega) HR.out (ch_not ‹_› ‹_› ‹_› ‹_ ∧ _›))
        have HE := Lib.hid (show ((s.extract a k).toList == [95]) = false from ‹_›)
        go_at_call 39
        refine (words_any _).mono ?_
        rintro e w' ⟨rfl, rfl⟩
        go_wp2
        go_loopw [10] (fun i wr => ∃ j : Nat, j ≤ 13 ∧ i = .int .i64 j ∧ Tab #[.string { data := #[108, 101, 116] }, .string { data := #[114, 101, 99] }, .string { data := #[105, 110] }, .string { data := #[102, 117, 110] }, .string { data := #[105, 102] }, .string { data := #[116, 104, 101, 110] }, .string { data := #[101, 108, 115, 101] }, .string { data := #[109, 97, 116, 99, 104] }, .string { data := #[119, 105, 116, 104] }, .string { data := #[116, 121, 112, 101] }, .string { data := #[111, 102] }, .string { data := #[116, 114, 117, 101] }, .string { data := #[102, 97, 108, 115, 101] }] w.heap.size (w.heap.size + 1) w wr ∧ ∀ i b, i < j → Lx.keys[i]? = some b → (b == (s.extract a k).toList) = false) (fun i _ => 13 - (intOf i).toNat)
        case atStart => exact ⟨0, by omega, rfl, tab_new _ _, by intros; omega⟩
        case round =>
          obtain ⟨j, hj, rfl, htab, hno⟩ := hrel
          have HNO := Lib.hid hno
          have HB := Lib.hid htab.2
          by_cases hjl : j < 13
          · obtain ⟨b, hb, hkey⟩ := key_at j hjl
            have hcell := (htab.1 j hjl).trans hb
            have HTAB := Lib.hid htab
            have HKEY := Lib.hid hkey
            clear htab hno hb hkey
            cases hq : (b.toList == (s.extract a k).toList)
            · go_wp2
              go_roundw
              case rel => exact ⟨j + 1, by omega, by go_num, HTAB.out, no_step HNO.out HKEY.out hq⟩
              case measure => simp [intOf]; omega
            · go_wp2
              go_ret2
              have e := HK.out
              exact one_ret (low_key HT.out e HE.out HKEY.out (by rw [← toL]; exact hq)) (by decide) rfl (by omega) HB.out
          · clear htab hno
            go_wp2
            go_ret2
            have e := HK.out
            exact one_ret (low_name HT.out e HE.out (fun i b hi => HNO.out i b (by omega))) (by decide) rfl (by omega) HB.out
    · go_wp2_with (first | (go_at_call 36; refine (rsmall_any _ _).mono ?_; rintro e w' ⟨rfl, rfl⟩) | (go_at_call 37; refine (rgreat_any _ _).mono ?_; rintro e w' ⟨rfl, rfl⟩) | (go_at_call 38; refine (rdigit_any _ _).mono ?_; rintro e w' ⟨rfl, rfl⟩))
      · have hkk := ch_all hlt hk (by omega) HR.out
        go_ret2
        exact one_ret (low_sign HT.out hkk ‹_›) (by decide) rfl (by omega) (Below.refl _ _)
      · have HK := Lib.hid (ch_all hlt hk (by omega) HR.out)
        have HE := Lib.hid (show ((s.extract a k).toList == [95]) = false from ‹_›)
        go_at_call 39
        refine (words_any _).mono ?_
        rintro e w' ⟨rfl, rfl⟩
        go_wp2
        go_loopw [10] (fun i wr => ∃ j : Nat, j ≤ 13 ∧ i = .int .i64 j ∧ Tab #[.string { data := #[108, 101, 116] }, .string { data := #[114, 101, 99] }, .string { data := #[105, 110] }, .string { data := #[102, 117, 110] }, .string { data := #[105, 102] }, .string { data := #[116, 104, 101, 110] }, .string { data := #[101, 108, 115, 101] }, .string { data := #[109, 97, 116, 99, 104] }, .string { data := #[119, 105, 116, 104] }, .string { data := #[116, 121, 112, 101] }, .string { data := #[111, 102] }, .string { data := #[116, 114, 117, 101] }, .string { data := #[102, 97, 108, 115, 101] }] w.heap.size (w.heap.size + 1) w wr ∧ ∀ i b, i < j → Lx.keys[i]? = some b → (b == (s.extract a k).toList) = false) (fun i _ => 13 - (intOf i).toNat)
        case atStart => exact ⟨0, by omega, rfl, tab_new _ _, by intros; omega⟩
        case round =>
          obtain ⟨j, hj, rfl, htab, hno⟩ := hrel
          have HNO := Lib.hid hno
          have HB := Lib.hid htab.2
          by_cases hjl : j < 13
          · obtain ⟨b, hb, hkey⟩ := key_at j hjl
            have hcell := (htab.1 j hjl).trans hb
            have HTAB := Lib.hid htab
            have HKEY := Lib.hid hkey
            clear htab hno hb hkey
            cases hq : (b.toList == (s.extract a k).toList)
            · go_wp2
              go_roundw
              case rel => exact ⟨j + 1, by omega, by go_num, HTAB.out, no_step HNO.out HKEY.out hq⟩
              case measure => simp [intOf]; omega
            · go_wp2
              go_ret2
              have e := HK.out
              exact one_ret (low_key HT.out e HE.out HKEY.out (by rw [← toL]; exact hq)) (by decide) rfl (by omega) HB.out
          · clear htab hno
            go_wp2
            go_ret2
            have e := HK.out
            exact one_ret (low_name HT.out e HE.out (fun i b hi => HNO.out i b (by omega))) (by decide) rfl (by omega) HB.out
end
end Go.Proofs.Yteialkkpoikelaa
