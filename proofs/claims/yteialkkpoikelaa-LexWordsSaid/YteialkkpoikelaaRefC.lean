/- The contract of the document's reader of one token. -/
import Derived.Test.YteialkkpoikelaaRefB
namespace Go.Proofs.Yteialkkpoikelaa
open Go.RowKit Go.Lib
set_option maxRecDepth 100000
set_option linter.unusedVariables false

/-- what the document's reader of one token answers. -/
def oneK (l : List UInt8) : Nat := if (Lx.tokF l).1 = 7 then 0 else (Lx.tokF l).1
def oneJ (l : List UInt8) (a : Nat) : Nat := if (Lx.tokF l).1 = 7 then 0 else a + (Lx.tokF l).2
def OnePost (s : ByteArray) (a : Nat) (w : World) (e : Ending) (w' : World) : Prop :=
  e = .returned (.tuple #[.int .i64 (oneK (s.data.toList.drop a) : Nat), .int .i64 (oneJ (s.data.toList.drop a) a : Nat)]) ∧ Below w.heap.size w w'
theorem one_ret {s : ByteArray} {a k n : Nat} {w w' : World} {x y : Int} (h : Lx.tokF (s.data.toList.drop a) = (k, n)) (hk : k ≠ 7) (hx : x = k) (hy : y = (a : Int) + n) (hw : Below w.heap.size w w') : OnePost s a w (.returned (.tuple #[.int .i64 x, .int .i64 y])) w' := by
  refine ⟨ret_pair ?_ ?_, hw⟩
  · simp [oneK, h, hk, hx]
  · simp [oneJ, h, hk, hy]
theorem one_none {s : ByteArray} {a n : Nat} {w w' : World} (h : Lx.tokF (s.data.toList.drop a) = (7, n)) (hw : Below w.heap.size w w') : OnePost s a w (.returned (.tuple #[.int .i64 0, .int .i64 0])) w' := by
  refine ⟨ret_pair ?_ ?_, hw⟩
  · simp [oneK, h]
  · simp [oneJ, h]

theorem ch_step {s : ByteArray} {m : List UInt8} {a k : Nat} (h : k < s.size) (ha : a ≤ k) (hr : k - a ≤ Lx.runN m (s.data.toList.drop a)) (hd : Lx.nameCh m s[k] = true) : k + 1 - a ≤ Lx.runN m (s.data.toList.drop a) := by
  have := front_step (p := Lx.nameCh m) (l := s.data.toList.drop a) (k := k - a) (by rw [List.length_drop, ← sz]; omega) hr (by rw [dropB s ha h]; exact hd)
  unfold Lx.runN
  omega
theorem ch_stop {s : ByteArray} {m : List UInt8} {a k : Nat} (h : k < s.size) (ha : a ≤ k) (hr : k - a ≤ Lx.runN m (s.data.toList.drop a)) (hd : Lx.nameCh m s[k] = false) : k = a + Lx.runN m (s.data.toList.drop a) := by
  have := front_stop (p := Lx.nameCh m) (l := s.data.toList.drop a) (k := k - a) (by rw [List.length_drop, ← sz]; omega) (by rw [dropB s ha h]; exact hd)
  unfold Lx.runN at *
  omega
theorem ch_all {s : ByteArray} {m : List UInt8} {a k : Nat} (h : ¬ k < s.size) (hk : k ≤ s.size) (ha : a ≤ k) (hr : k - a ≤ Lx.runN m (s.data.toList.drop a)) : k = a + Lx.runN m (s.data.toList.drop a) := by
  have := front_le (p := Lx.nameCh m) (s.data.toList.drop a)
  rw [List.length_drop, ← sz] at this
  unfold Lx.runN at *
  omega

theorem ch_of {c : UInt8} (h : Lx.isSmall c = true ∨ Lx.isGreat c = true ∨ Lx.isDigit c = true ∨ (c.toNat : Int) = 95 ∨ ((((c.toNat : Int) == 95) = true) ∨ (((c.toNat : Int) == 39) = true))) : Lx.nameCh [39] c = true := by
  have e : ∀ n : Nat, n < 256 → c.toNat = n → c = n.toUInt8 := fun n hn h => UInt8.toNat_inj.1 (by simp [h]; omega)
  rcases h with h | h | h | h | h | h
  · simp [Lx.nameCh, Lx.isLetter, h]
  · simp [Lx.nameCh, Lx.isLetter, h]
  · simp [Lx.nameCh, Lx.isLetter, h]
  · have := e 95 (by omega) (by omega); subst this; rfl
  · simp only [beq_iff_eq] at h; have := e 95 (by omega) (by omega); subst this; rfl
  · simp only [beq_iff_eq] at h; have := e 39 (by omega) (by omega); subst this; rfl
theorem ch_not {c : UInt8} (h1 : ¬ Lx.isSmall c = true) (h2 : ¬ Lx.isGreat c = true) (h3 : ¬ Lx.isDigit c = true) (h4 : ((c.toNat : Int) == 95) = false ∧ ((c.toNat : Int) == 39) = false) : Lx.nameCh [39] c = false := by
  simp only [beq_eq_false_iff_ne, ne_eq] at h4
  have e1 : ¬ c.toNat = 95 := by omega
  have e2 : ¬ c = 39 := by rintro rfl; exact h4.2 rfl
  simp [Lx.nameCh, Lx.isLetter, h1, h2, h3, e1, e2]
theorem key_at : ∀ j, j < 13 → ∃ b : ByteArray, (#[.string { data := #[108, 101, 116] }, .string { data := #[114, 101, 99] }, .string { data := #[105, 110] }, .string { data := #[102, 117, 110] }, .string { data := #[105, 102] }, .string { data := #[116, 104, 101, 110] }, .string { data := #[101, 108, 115, 101] }, .string { data := #[109, 97, 116, 99, 104] }, .string { data := #[119, 105, 116, 104] }, .string { data := #[116, 121, 112, 101] }, .string { data := #[111, 102] }, .string { data := #[116, 114, 117, 101] }, .string { data := #[102, 97, 108, 115, 101] }] : Array Value)[j]? = some (.string b) ∧ Lx.keys[j]? = some b.data.toList := by
  intro j hj
  match j, hj with
  | 0, _ | 1, _ | 2, _ | 3, _ | 4, _ | 5, _ | 6, _ | 7, _ | 8, _ | 9, _ | 10, _ | 11, _ | 12, _ => exact ⟨_, rfl, rfl⟩
theorem kind_sign {w : List UInt8} (h : (w == [95]) = true) : Lx.nameKind w = 6 := by simp [Lx.nameKind, h]
theorem kind_key {w : List UInt8} (h : (w == [95]) = false) {j : Nat} {b : List UInt8} (hj : Lx.keys[j]? = some b) (hb : (b == w) = true) : Lx.nameKind w = 5 := by
  have : w ∈ Lx.keys := by
    have e : b = w := by simpa using hb
    rw [← e]; exact List.mem_of_getElem? hj
  simp [Lx.nameKind, h, this]
theorem kind_name {w : List UInt8} (h : (w == [95]) = false) (hk : ∀ j b, j < 13 → Lx.keys[j]? = some b → (b == w) = false) : Lx.nameKind w = 1 := by
  have : w ∉ Lx.keys := by
    intro hm
    obtain ⟨j, hj, e⟩ := List.getElem_of_mem hm
    have := hk j w hj (by rw [← e]; exact List.getElem?_eq_getElem hj)
    simp at this
  simp [Lx.nameKind, h, this]
section
variable (s : ByteArray) (a : Nat) (h : a < s.size) (hs : s.size ≤ 1099511627776) (w : World)
include h hs
set_option maxHeartbeats 1000000 in
theorem one_great (h0 : Lx.isSmall s[a] = false) (h1 : Lx.isGreat s[a] = true) : Calls Try.prog 26 #[.string s, .int .i64 a] w (OnePost s a w) := by
  have ne : (s[a].toNat = 95) = False := by simp only [Lx.isGreat, decide_eq_true_eq] at h1; simp; omega
  have ht := tokF_eq s a h
  simp only [h0, h1, ne, decide_false, Bool.or_self, Bool.false_eq_true, if_false, if_true] at ht
  have HT := Lib.hid ht
  have HN := Lib.hid (show Lx.nameCh [39] s[a] = true from by simp [Lx.nameCh, Lx.isLetter, h1])
  have HW := Lib.hid (show ∀ k, a < k → ((s.extract a k).toList == [95]) = false from by
    intro k hk
    rw [cut_toL, drop_at s a h]
    obtain ⟨m, rfl⟩ : ∃ m, k = a + (m + 1) := ⟨k - a - 1, by omega⟩
    rw [Nat.add_sub_cancel_left]
    simp only [List.take_succ_cons]
    rw [beq_eq_false_iff_ne]
    intro e
    simp only [List.cons.injEq] at e
    rw [e.1] at h1
    simp [Lx.isGreat] at h1)
  clear ne ht
  go_enter Try.func26, Try.ntmps26
  go_wp2_with (first | (go_at_call 36; refine (rsmall_any _ _).mono ?_; rintro e w' ⟨rfl, rfl⟩) | (go_at_call 37; refine (rgreat_any _ _).mono ?_; rintro e w' ⟨rfl, rfl⟩) | (go_at_call 38; refine (rdigit_any _ _).mono ?_; rintro e w' ⟨rfl, rfl⟩))
  go_loop [7] (fun i => ∃ k : Nat, a + 1 ≤ k ∧ k ≤ s.size ∧ i = .int .i64 k ∧ k - a ≤ Lx.runN [39] (s.data.toList.drop a)) (fun i => s.size - (intOf i).toNat)
  case atStart => exact ⟨a + 1, by omega, by omega, by go_num, by have := ch_step h (Nat.le_refl a) (by omega) HN.out; omega⟩
  case round =>
    obtain ⟨k, hak, hk, rfl, hr⟩ := hrel
    have HR := Lib.hid hr
    have hw := HW.out k (by omega)
    clear hr
    by_cases hlt : k < s.size
    · go_wp2_with (first | (go_at_call 36; refine (rsmall_any _ _).mono ?_; rintro e w' ⟨rfl, rfl⟩) | (go_at_call 37; refine (rgreat_any _ _).mono ?_; rintro e w' ⟨rfl, rfl⟩) | (go_at_call 38; refine (rdigit_any _ _).mono ?_; rintro e w' ⟨rfl, rfl⟩))
      · go_round
        case rel => exact ⟨k + 1, by omega, by omega, by go_num, ch_step hlt (by omega) HR.out (ch_of (.inl ‹_›))⟩
        case measure => simp [intOf]; omega
      · go_round
        case rel => exact ⟨k + 1, by omega, by omega, by go_num, ch_step hlt (by omega) HR.out (ch_of (.inr (.inl ‹_›)))⟩
        case measure => simp [intOf]; omega
      · go_round
        case rel => exact ⟨k + 1, by omega, by omega, by go_num, ch_step hlt (by omega) HR.out (ch_of (.inr (.inr (.inl ‹_›))))⟩
        case measure => simp [intOf]; omega
      · go_round
        case rel => exact ⟨k + 1, by omega, by omega, by go_num, ch_step hlt (by omega) HR.out (ch_of (.inr (.inr (.inr (.inl ‹_›)))))⟩
        case measure => simp [intOf]; omega
      · go_round
        case rel => exact ⟨k + 1, by omega, by omega, by go_num, ch_step hlt (by omega) HR.out (ch_of (.inr (.inr (.inr (.inr ‹_›)))))⟩
        case measure => simp [intOf]; omega
      · go_ret2
        have := ch_stop hlt (by omega) HR.out (ch_not ‹_› ‹_› ‹_› ‹_ ∧ _›)
        exact one_ret HT.out (by decide) rfl (by omega) (Below.refl _ _)
    · go_wp2_with (first | (go_at_call 36; refine (rsmall_any _ _).mono ?_; rintro e w' ⟨rfl, rfl⟩) | (go_at_call 37; refine (rgreat_any _ _).mono ?_; rintro e w' ⟨rfl, rfl⟩) | (go_at_call 38; refine (rdigit_any _ _).mono ?_; rintro e w' ⟨rfl, rfl⟩))
      go_ret2
      have := ch_all hlt hk (by omega) HR.out
      exact one_ret HT.out (by decide) rfl (by omega) (Below.refl _ _)
end
end Go.Proofs.Yteialkkpoikelaa
