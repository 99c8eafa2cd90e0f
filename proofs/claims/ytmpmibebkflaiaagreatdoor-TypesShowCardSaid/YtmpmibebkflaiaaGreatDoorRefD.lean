/- The contracts of the document's small predicates on a text. The contracts of the document's tables of words and signs. The contract of the document's reader of one token. The contract of the document's reader of one token: names. -/
import Derived.Test.YtmpmibebkflaiaaGreatDoorLexE
import Derived.Laws.Rows
namespace Go.Proofs.YtmpmibebkflaiaaGreatDoor
open Go.RowKit Go.Lib
set_option maxRecDepth 100000
set_option linter.unusedVariables false

theorem rwhite_any (c : UInt8) (w : World) : Calls Tryz.prog 64 #[.int .u8 (c.toNat : Int)] w fun e w' => e = .returned (.bool (Lx.isWhite c)) ∧ w = w' := by
  go_enter Tryz.func64, Tryz.ntmps64
  go_wp2
  all_goals
    go_ret
    exact ⟨ret_bool (by rw [Bool.eq_iff_iff]; simp [Lx.isWhite]; omega), rfl⟩
theorem rsmall_any (c : UInt8) (w : World) : Calls Tryz.prog 73 #[.int .u8 (c.toNat : Int)] w fun e w' => e = .returned (.bool (Lx.isSmall c)) ∧ w = w' := by
  go_enter Tryz.func73, Tryz.ntmps73
  go_wp2
  all_goals
    go_ret
    exact ⟨ret_bool (by rw [Bool.eq_iff_iff]; simp [Lx.isSmall]; omega), rfl⟩
theorem rgreat_any (c : UInt8) (w : World) : Calls Tryz.prog 74 #[.int .u8 (c.toNat : Int)] w fun e w' => e = .returned (.bool (Lx.isGreat c)) ∧ w = w' := by
  go_enter Tryz.func74, Tryz.ntmps74
  go_wp2
  all_goals
    go_ret
    exact ⟨ret_bool (by rw [Bool.eq_iff_iff]; simp [Lx.isGreat]; omega), rfl⟩
theorem rdigit_any (c : UInt8) (w : World) : Calls Tryz.prog 75 #[.int .u8 (c.toNat : Int)] w fun e w' => e = .returned (.bool (Lx.isDigit c)) ∧ w = w' := by
  go_enter Tryz.func75, Tryz.ntmps75
  go_wp2
  all_goals
    go_ret
    exact ⟨ret_bool (by rw [Bool.eq_iff_iff]; simp [Lx.isDigit]; omega), rfl⟩

theorem at_yes {s p : ByteArray} {i : Nat} (h : (i : Int) + p.size ≤ s.size) : ((s.extract i (i + p.size)).toList == p.toList) = Lx.preB p.data.toList (s.data.toList.drop i) := by
  rw [cut_toL, toL, Lx.preB, Bool.eq_iff_iff, List.isPrefixOf_iff_prefix, beq_iff_eq, List.prefix_iff_eq_take, Nat.add_sub_cancel_left]
  exact ⟨fun h => h.symm, fun h => h.symm⟩
theorem at_no {s p : ByteArray} {i : Nat} (hi : i ≤ s.size) (h : (s.size : Int) < i + p.size) : false = Lx.preB p.data.toList (s.data.toList.drop i) := by
  symm
  rw [Bool.eq_false_iff]
  intro hp
  have := (List.isPrefixOf_iff_prefix.1 hp).length_le
  rw [List.length_drop, ← sz, ← sz] at this
  omega
theorem rat_any (s p : ByteArray) (i : Nat) (hi : i ≤ s.size) (hs : s.size ≤ 1099511627776) (hp : p.size ≤ 1000) (w : World) :
    Calls Tryz.prog 65 #[.string s, .int .i64 (i : Int), .string p] w fun e w' => e = .returned (.bool (Lx.preB p.data.toList (s.data.toList.drop i))) ∧ w = w' := by
  go_enter Tryz.func65, Tryz.ntmps65
  go_wp2
  all_goals go_ret
  · exact ⟨ret_bool (at_yes ‹_›), rfl⟩
  · exact ⟨ret_bool (at_no hi ‹_›), rfl⟩
end Go.Proofs.YtmpmibebkflaiaaGreatDoor
namespace Go.Proofs.YtmpmibebkflaiaaGreatDoor
open Go.RowKit Go.Lib
set_option maxRecDepth 100000
set_option linter.unusedVariables false

theorem info13 : (Tryz.prog.info? 89).map (·.size) = some 13 := by kernel_rfl
theorem ul13 : Tryz.prog.underlying 89 = some (.array 13 9) := by kernel_rfl
theorem words_any (w : World) : Calls Tryz.prog 76 #[] w fun e w' => e = .returned (.agg #[.string { data := #[108, 101, 116] }, .string { data := #[114, 101, 99] }, .string { data := #[105, 110] }, .string { data := #[102, 117, 110] }, .string { data := #[105, 102] }, .string { data := #[116, 104, 101, 110] }, .string { data := #[101, 108, 115, 101] }, .string { data := #[109, 97, 116, 99, 104] }, .string { data := #[119, 105, 116, 104] }, .string { data := #[116, 121, 112, 101] }, .string { data := #[111, 102] }, .string { data := #[116, 114, 117, 101] }, .string { data := #[102, 97, 108, 115, 101] }]) ∧ w' = w.alloc (.cells #[.string { data := #[108, 101, 116] }, .string { data := #[114, 101, 99] }, .string { data := #[105, 110] }, .string { data := #[102, 117, 110] }, .string { data := #[105, 102] }, .string { data := #[116, 104, 101, 110] }, .string { data := #[101, 108, 115, 101] }, .string { data := #[109, 97, 116, 99, 104] }, .string { data := #[119, 105, 116, 104] }, .string { data := #[116, 121, 112, 101] }, .string { data := #[111, 102] }, .string { data := #[116, 114, 117, 101] }, .string { data := #[102, 97, 108, 115, 101] }] 89) := by
  go_enter Tryz.func76, Tryz.ntmps76
  go_wp2
  refine bodyPost_ret (v := .agg #[.string { data := #[108, 101, 116] }, .string { data := #[114, 101, 99] }, .string { data := #[105, 110] }, .string { data := #[102, 117, 110] }, .string { data := #[105, 102] }, .string { data := #[116, 104, 101, 110] }, .string { data := #[101, 108, 115, 101] }, .string { data := #[109, 97, 116, 99, 104] }, .string { data := #[119, 105, 116, 104] }, .string { data := #[116, 121, 112, 101] }, .string { data := #[111, 102] }, .string { data := #[116, 114, 117, 101] }, .string { data := #[102, 97, 108, 115, 101] }]) ?_ rfl ⟨rfl, rfl⟩
  exact results_cell_row rfl _ _ w.heap.size 89 #[.string { data := #[108, 101, 116] }, .string { data := #[114, 101, 99] }, .string { data := #[105, 110] }, .string { data := #[102, 117, 110] }, .string { data := #[105, 102] }, .string { data := #[116, 104, 101, 110] }, .string { data := #[101, 108, 115, 101] }, .string { data := #[109, 97, 116, 99, 104] }, .string { data := #[119, 105, 116, 104] }, .string { data := #[116, 121, 112, 101] }, .string { data := #[111, 102] }, .string { data := #[116, 114, 117, 101] }, .string { data := #[102, 97, 108, 115, 101] }] (0, 0) _ rfl (heap_alloc_new _ _) ul13 rfl info13
theorem signs_any (w : World) : Calls Tryz.prog 77 #[] w fun e w' => e = .returned (.agg #[.string { data := #[45, 62] }, .string { data := #[58, 58] }, .string { data := #[59, 59] }, .string { data := #[40] }, .string { data := #[41] }, .string { data := #[44] }, .string { data := #[124] }, .string { data := #[61] }, .string { data := #[60] }, .string { data := #[43] }, .string { data := #[45] }, .string { data := #[42] }, .string { data := #[95] }]) ∧ w' = w.alloc (.cells #[.string { data := #[45, 62] }, .string { data := #[58, 58] }, .string { data := #[59, 59] }, .string { data := #[40] }, .string { data := #[41] }, .string { data := #[44] }, .string { data := #[124] }, .string { data := #[61] }, .string { data := #[60] }, .string { data := #[43] }, .string { data := #[45] }, .string { data := #[42] }, .string { data := #[95] }] 89) := by
  go_enter Tryz.func77, Tryz.ntmps77
  go_wp2
  refine bodyPost_ret (v := .agg #[.string { data := #[45, 62] }, .string { data := #[58, 58] }, .string { data := #[59, 59] }, .string { data := #[40] }, .string { data := #[41] }, .string { data := #[44] }, .string { data := #[124] }, .string { data := #[61] }, .string { data := #[60] }, .string { data := #[43] }, .string { data := #[45] }, .string { data := #[42] }, .string { data := #[95] }]) ?_ rfl ⟨rfl, rfl⟩
  exact results_cell_row rfl _ _ w.heap.size 89 #[.string { data := #[45, 62] }, .string { data := #[58, 58] }, .string { data := #[59, 59] }, .string { data := #[40] }, .string { data := #[41] }, .string { data := #[44] }, .string { data := #[124] }, .string { data := #[61] }, .string { data := #[60] }, .string { data := #[43] }, .string { data := #[45] }, .string { data := #[42] }, .string { data := #[95] }] (0, 0) _ rfl (heap_alloc_new _ _) ul13 rfl info13

/-- a table in a block. -/
def Tab (tab : Array Value) (base g : Nat) (w wr : World) : Prop := (∀ j, j < 13 → wr.cell? ⟨g, j, none⟩ = tab[j]?) ∧ Below base w wr
theorem tab_new (tab : Array Value) (w : World) : Tab tab w.heap.size (w.heap.size + 1) w ((w.alloc (.cells tab 89)).alloc (.cells tab 89)) := by
  refine ⟨fun j hj => ?_, ((Below.refl _ w).alloc (Nat.le_refl _) _).alloc (by simp) _⟩
  rw [cell_of_row _ _ j tab 89 (0, 0) (heap_alloc2_new w _ _)]
end Go.Proofs.YtmpmibebkflaiaaGreatDoor
namespace Go.Proofs.YtmpmibebkflaiaaGreatDoor
open Go.RowKit Go.Lib
set_option maxRecDepth 100000
set_option linter.unusedVariables false

/-- what the document's reader of one token answers. -/
def oneK (l : List UInt8) : Nat := if (Lx.tokF l).1 = 7 then 0 else (Lx.tokF l).1
def oneJ (l : List UInt8) (a : Nat) : Nat := if (Lx.tokF l).1 = 7 then 0 else a + (Lx.tokF l).2
def OnePost (s : ByteArray) (a : Nat) (w : World) (e : Ending) (w' : World) : Prop :=
  e = .returned (.tuple #[.int .i64 (oneK (s.data.toList.drop a) : Nat), .int .i64 (oneJ (s.data.toList.drop a) a : Nat)]) ∧ Below w.heap.size w w'
theorem one_ret {s : ByteArray} {a k n : Nat} {w w' : World} {x y : Int} (h : Lx.tokF (s.data.toList.drop a) = (k, n)) (hk : k ≠ 7) (hx : x = k) (hy : y = (a : Int) + n) (hw : Below w.heap.size w w') : OnePost s a w (.returned (.tuple #[.int .i64 x, .int .i64 y])) w' := by
  refine ⟨ret_pair ?_ ?_, hw⟩
  · simp [oneK, h, hk, hx]
  · simp [oneJ, h, hk, hy]
theorem one_none {s : ByteArray} {a n : Nat} {w w' : World} (h : Lx.tokF (s.data.toList.drop a) = (7, n)) (hw : Below w.heap.size w w') : OnePost s a w (.returned (.tuple #[.int .i64 0, .int .i64 0])) w' := by
  refine ⟨ret_pair ?_ ?_, hw⟩
  · simp [oneK, h]
  · simp [oneJ, h]

theorem ch_step {s : ByteArray} {m : List UInt8} {a k : Nat} (h : k < s.size) (ha : a ≤ k) (hr : k - a ≤ Lx.runN m (s.data.toList.drop a)) (hd : Lx.nameCh m s[k] = true) : k + 1 - a ≤ Lx.runN m (s.data.toList.drop a) := by
  have := front_step (p := Lx.nameCh m) (l := s.data.toList.drop a) (k := k - a) (by rw [List.length_drop, ← sz]; omega) hr (by rw [dropB s ha h]; exact hd)
  unfold Lx.runN
  omega
theorem ch_stop {s : ByteArray} {m : List UInt8} {a k : Nat} (h : k < s.size) (ha : a ≤ k) (hr : k - a ≤ Lx.runN m (s.data.toList.drop a)) (hd : Lx.nameCh m s[k] = false) : k = a + Lx.runN m (s.data.toList.drop a) := by
  have := front_stop (p := Lx.nameCh m) (l := s.data.toList.drop a) (k := k - a) (by rw [List.length_drop, ← sz]; omega) (by rw [dropB s ha h]; exact hd)
  unfold Lx.runN at *
  omega
theorem ch_all {s : ByteArray} {m : List UInt8} {a k : Nat} (h : ¬ k < s.size) (hk : k ≤ s.size) (ha : a ≤ k) (hr : k - a ≤ Lx.runN m (s.data.toList.drop a)) : k = a + Lx.runN m (s.data.toList.drop a) := by
  have := front_le (p := Lx.nameCh m) (s.data.toList.drop a)
  rw [List.length_drop, ← sz] at this
  unfold Lx.runN at *
  omega

theorem ch_of {c : UInt8} (h : Lx.isSmall c = true ∨ Lx.isGreat c = true ∨ Lx.isDigit c = true ∨ (c.toNat : Int) = 95 ∨ ((((c.toNat : Int) == 95) = true) ∨ (((c.toNat : Int) == 39) = true))) : Lx.nameCh [39] c = true := by
  have e : ∀ n : Nat, n < 256 → c.toNat = n → c = n.toUInt8 := fun n hn h => UInt8.toNat_inj.1 (by simp [h]; omega)
  rcases h with h | h | h | h | h | h
  · simp [Lx.nameCh, Lx.isLetter, h]
  · simp [Lx.nameCh, Lx.isLetter, h]
  · simp [Lx.nameCh, Lx.isLetter, h]
  · have := e 95 (by omega) (by omega); subst this; rfl
  · simp only [beq_iff_eq] at h; have := e 95 (by omega) (by omega); subst this; rfl
  · simp only [beq_iff_eq] at h; have := e 39 (by omega) (by omega); subst this; rfl
theorem ch_not {c : UInt8} (h1 : ¬ Lx.isSmall c = true) (h2 : ¬ Lx.isGreat c = true) (h3 : ¬ Lx.isDigit c = true) (h4 : ((c.toNat : Int) == 95) = false ∧ ((c.toNat : Int) == 39) = false) : Lx.nameCh [39] c = false := by
  simp only [beq_eq_false_iff_ne, ne_eq] at h4
  have e1 : ¬ c.toNat = 95 := by omega
  have e2 : ¬ c = 39 := by rintro rfl; exact h4.2 rfl
  simp [Lx.nameCh, Lx.isLetter, h1, h2, h3, e1, e2]
theorem key_at : ∀ j, j < 13 → ∃ b : ByteArray, (#[.string { data := #[108, 101, 116] }, .string { data := #[114, 101, 99] }, .string { data := #[105, 110] }, .string { data := #[102, 117, 110] }, .string { data := #[105, 102] }, .string { data := #[116, 104, 101, 110] }, .string { data := #[101, 108, 115, 101] }, .string { data := #[109, 97, 116, 99, 104] }, .string { data := #[119, 105, 116, 104] }, .string { data := #[116, 121, 112, 101] }, .string { data := #[111, 102] }, .string { data := #[116, 114, 117, 101] }, .string { data := #[102, 97, 108, 115, 101] }] : Array Value)[j]? = some (.string b) ∧ Lx.keys[j]? = some b.data.toList := by
  intro j hj
  match j, hj with
  | 0, _ | 1, _ | 2, _ | 3, _ | 4, _ | 5, _ | 6, _ | 7, _ | 8, _ | 9, _ | 10, _ | 11, _ | 12, _ => exact ⟨_, rfl, rfl⟩
theorem kind_sign {w : List UInt8} (h : (w == [95]) = true) : Lx.nameKind w = 6 := by simp [Lx.nameKind, h]
theorem kind_key {w : List UInt8} (h : (w == [95]) = false) {j : Nat} {b : List UInt8} (hj : Lx.keys[j]? = some b) (hb : (b == w) = true) : Lx.nameKind w = 5 := by
  have : w ∈ Lx.keys := by
    have e : b = w := by simpa using hb
    rw [← e]; exact List.mem_of_getElem? hj
  simp [Lx.nameKind, h, this]
theorem kind_name {w : List UInt8} (h : (w == [95]) = false) (hk : ∀ j b, j < 13 → Lx.keys[j]? = some b → (b == w) = false) : Lx.nameKind w = 1 := by
  have : w ∉ Lx.keys := by
    intro hm
    obtain ⟨j, hj, e⟩ := List.getElem_of_mem hm
    have := hk j w hj (by rw [← e]; exact List.getElem?_eq_getElem hj)
    simp at this
  simp [Lx.nameKind, h, this]
section
variable (s : ByteArray) (a : Nat) (h : a < s.size) (hs : s.size ≤ 1099511627776) (w : World)
include h hs
set_option maxHeartbeats 1000000 in
theorem one_great (h0 : Lx.isSmall s[a] = false) (h1 : Lx.isGreat s[a] = true) : Calls Tryz.prog 67 #[.string s, .int .i64 a] w (OnePost s a w) := by
  have ne : (s[a].toNat = 95) = False := by simp only [Lx.isGreat, decide_eq_true_eq] at h1; simp; omega
  have ht := tokF_eq s a h
  simp only [h0, h1, ne, decide_false, Bool.or_self, Bool.false_eq_true, if_false, if_true] at ht
  have HT := Lib.hid ht
  have HN := Lib.hid (show Lx.nameCh [39] s[a] = true from by simp [Lx.nameCh, Lx.isLetter, h1])
  have HW := Lib.hid (show ∀ k, a < k → ((s.extract a k).toList == [95]) = false from by
    intro k hk
    rw [cut_toL, drop_at s a h]
    obtain ⟨m, rfl⟩ : ∃ m, k = a + (m + 1) := ⟨k - a - 1, by omega⟩
    rw [Nat.add_sub_cancel_left]
    simp only [List.take_succ_cons]
    rw [beq_eq_false_iff_ne]
    intro e
    simp only [List.cons.injEq] at e
    rw [e.1] at h1
    simp [Lx.isGreat] at h1)
  clear ne ht
  go_enter Tryz.func67, Tryz.ntmps67
  go_wp2_with (first | (go_at_call 73; refine (rsmall_any _ _).mono ?_; rintro e w' ⟨rfl, rfl⟩) | (go_at_call 74; refine (rgreat_any _ _).mono ?_; rintro e w' ⟨rfl, rfl⟩) | (go_at_call 75; refine (rdigit_any _ _).mono ?_; rintro e w' ⟨rfl, rfl⟩))
  go_loop [7] (fun i => ∃ k : Nat, a + 1 ≤ k ∧ k ≤ s.size ∧ i = .int .i64 k ∧ k - a ≤ Lx.runN [39] (s.data.toList.drop a)) (fun i => s.size - (intOf i).toNat)
  case atStart => exact ⟨a + 1, by omega, by omega, by go_num, by have := ch_step h (Nat.le_refl a) (by omega) HN.out; omega⟩
  case round =>
    obtain ⟨k, hak, hk, rfl, hr⟩ := hrel
    have HR := Lib.hid hr
    have hw := HW.out k (by omega)
    clear hr
    by_cases hlt : k < s.size
    · go_wp2_with (first | (go_at_call 73; refine (rsmall_any _ _).mono ?_; rintro e w' ⟨rfl, rfl⟩) | (go_at_call 74; refine (rgreat_any _ _).mono ?_; rintro e w' ⟨rfl, rfl⟩) | (go_at_call 75; refine (rdigit_any _ _).mono ?_; rintro e w' ⟨rfl, rfl⟩))
      · go_round
        case rel => exact ⟨k + 1, by omega, by omega, by go_num, ch_step hlt (by omega) HR.out (ch_of (.inl ‹_›))⟩
        case measure => simp [intOf]; omega
      · go_round
        case rel => exact ⟨k + 1, by omega, by omega, by go_num, ch_step hlt (by omega) HR.out (ch_of (.inr (.inl ‹_›)))⟩
        case measure => simp [intOf]; omega
      · go_round
        case rel => exact ⟨k + 1, by omega, by omega, by go_num, ch_step hlt (by omega) HR.out (ch_of (.inr (.inr (.inl ‹_›))))⟩
        case measure => simp [intOf]; omega
      · go_round
        case rel => exact ⟨k + 1, by omega, by omega, by go_num, ch_step hlt (by omega) HR.out (ch_of (.inr (.inr (.inr (.inl ‹_›)))))⟩
        case measure => simp [intOf]; omega
      · go_round
        case rel => exact ⟨k + 1, by omega, by omega, by go_num, ch_step hlt (by omega) HR.out (ch_of (.inr (.inr (.inr (.inr ‹_›)))))⟩
        case measure => simp [intOf]; omega
      · go_ret2
        have := ch_stop hlt (by omega) HR.out (ch_not ‹_› ‹_› ‹_› ‹_ ∧ _›)
        exact one_ret HT.out (by decide) rfl (by omega) (Below.refl _ _)
    · go_wp2_with (first | (go_at_call 73; refine (rsmall_any _ _).mono ?_; rintro e w' ⟨rfl, rfl⟩) | (go_at_call 74; refine (rgreat_any _ _).mono ?_; rintro e w' ⟨rfl, rfl⟩) | (go_at_call 75; refine (rdigit_any _ _).mono ?_; rintro e w' ⟨rfl, rfl⟩))
      go_ret2
      have := ch_all hlt hk (by omega) HR.out
      exact one_ret HT.out (by decide) rfl (by omega) (Below.refl _ _)
end
end Go.Proofs.YtmpmibebkflaiaaGreatDoor
namespace Go.Proofs.YtmpmibebkflaiaaGreatDoor
open Go.RowKit Go.Lib
set_option maxRecDepth 100000
set_option linter.unusedVariables false

theorem cut_run {s : ByteArray} {a k n : Nat} (hk : k = a + n) : (s.extract a k).toList = (s.data.toList.drop a).take n := by
  rw [cut_toL, hk, Nat.add_sub_cancel_left]
theorem no_step {l : List (List UInt8)} {c : List UInt8} {j : Nat} {b0 : ByteArray} (h : ∀ i b, i < j → l[i]? = some b → (b == c) = false) (h0 : l[j]? = some b0.data.toList) (hq : (b0.toList == c) = false) : ∀ i b, i < j + 1 → l[i]? = some b → (b == c) = false := by
  intro i b hi hb
  rcases Nat.lt_succ_iff_lt_or_eq.1 hi with hi | rfl
  · exact h i b hi hb
  · rw [h0] at hb
    injection hb with hb
    rw [← hb, ← toL]; exact hq
section
variable {s : ByteArray} {a k n : Nat} {w : World} (ht : Lx.tokF (s.data.toList.drop a) = (Lx.nameKind ((s.data.toList.drop a).take n), n)) (hk : k = a + n)
include ht hk
theorem low_sign (he : ((s.extract a k).toList == [95]) = true) : Lx.tokF (s.data.toList.drop a) = (6, n) := by
  rw [cut_run hk] at he
  rw [ht, kind_sign he]
theorem low_key (he : ((s.extract a k).toList == [95]) = false) {j : Nat} {b : List UInt8} (hj : Lx.keys[j]? = some b) (hb : (b == (s.extract a k).toList) = true) : Lx.tokF (s.data.toList.drop a) = (5, n) := by
  rw [cut_run hk] at he hb
  rw [ht, kind_key he hj hb]
theorem low_name (he : ((s.extract a k).toList == [95]) = false) (hn : ∀ j b, j < 13 → Lx.keys[j]? = some b → (b == (s.extract a k).toList) = false) : Lx.tokF (s.data.toList.drop a) = (1, n) := by
  rw [cut_run hk] at he hn
  rw [ht, kind_name he hn]
end
section
variable (s : ByteArray) (a : Nat) (h : a < s.size) (hs : s.size ≤ 1099511627776) (w : World)
include h hs
set_option maxHeartbeats 1000000 in
theorem one_small (h1 : Lx.isSmall s[a] = true) : Calls Tryz.prog 67 #[.string s, .int .i64 a] w (OnePost s a w) := by
  have h2 : Lx.isGreat s[a] = false := by simp [Lx.isSmall] at h1; simp [Lx.isGreat]; omega
  have ht := tokF_eq s a h
  simp only [h1, Bool.true_or, if_true] at ht
  have HT := Lib.hid ht
  have HN := Lib.hid (show Lx.nameCh [39] s[a] = true from by simp [Lx.nameCh, Lx.isLetter, h1])
  clear ht
  go_enter Tryz.func67, Tryz.ntmps67
  go_wp2_with (first | (go_at_call 73; refine (rsmall_any _ _).mono ?_; rintro e w' ⟨rfl, rfl⟩) | (go_at_call 74; refine (rgreat_any _ _).mono ?_; rintro e w' ⟨rfl, rfl⟩) | (go_at_call 75; refine (rdigit_any _ _).mono ?_; rintro e w' ⟨rfl, rfl⟩))
  go_loop [7] (fun i => ∃ k : Nat, a + 1 ≤ k ∧ k ≤ s.size ∧ i = .int .i64 k ∧ k - a ≤ Lx.runN [39] (s.data.toList.drop a)) (fun i => s.size - (intOf i).toNat)
  case atStart => exact ⟨a + 1, by omega, by omega, by go_num, by have := ch_step h (Nat.le_refl a) (by omega) HN.out; omega⟩
  case round =>
    obtain ⟨k, hak, hk, rfl, hr⟩ := hrel
    have HR := Lib.hid hr
    clear hr
    by_cases hlt : k < s.size
    · go_wp2_with (first | (go_at_call 73; refine (rsmall_any _ _).mono ?_; rintro e w' ⟨rfl, rfl⟩) | (go_at_call 74; refine (rgreat_any _ _).mono ?_; rintro e w' ⟨rfl, rfl⟩) | (go_at_call 75; refine (rdigit_any _ _).mono ?_; rintro e w' ⟨rfl, rfl⟩))
      · go_round
        case rel => exact ⟨k + 1, by omega, by omega, by go_num, ch_step hlt (by omega) HR.out (ch_of (.inl ‹_›))⟩
        case measure => simp [intOf]; omega
      · go_round
        case rel => exact ⟨k + 1, by omega, by omega, by go_num, ch_step hlt (by omega) HR.out (ch_of (.inr (.inl ‹_›)))⟩
        case measure => simp [intOf]; omega
      · go_round
        case rel => exact ⟨k + 1, by omega, by omega, by go_num, ch_step hlt (by omega) HR.out (ch_of (.inr (.inr (.inl ‹_›))))⟩
        case measure => simp [intOf]; omega
      · go_round
        case rel => exact ⟨k + 1, by omega, by omega, by go_num, ch_step hlt (by omega) HR.out (ch_of (.inr (.inr (.inr (.inl ‹_›)))))⟩
        case measure => simp [intOf]; omega
      · go_round
        case rel => exact ⟨k + 1, by omega, by omega, by go_num, ch_step hlt (by omega) HR.out (ch_of (.inr (.inr (.inr (.inr ‹_›)))))⟩
        case measure => simp [intOf]; omega
      · have hkk := ch_stop hlt (by omega) HR.out (ch_not ‹_› ‹_› ‹_› ‹_ ∧ _›)
        go_ret2
        exact one_ret (low_sign HT.out hkk ‹_›) (by decide) rfl (by omega) (Below.refl _ _)
      · have HK := Lib.hid (ch_stop hlt (by omega) HR.out (ch_not ‹_› ‹_› ‹_› ‹_ ∧ _›))
        have HE := Lib.hid (show ((s.extract a k).toList == [95]) = false from ‹_›)
        go_at_call 76
        refine (words_any _).mono ?_
        rintro e w' ⟨rfl, rfl⟩
        go_wp2
        go_loopw [10] (fun i wr => ∃ j : Nat, j ≤ 13 ∧ i = .int .i64 j ∧ Tab #[.string { data := #[108, 101, 116] }, .string { data := #[114, 101, 99] }, .string { data := #[105, 110] }, .string { data := #[102, 117, 110] }, .string { data := #[105, 102] }, .string { data := #[116, 104, 101, 110] }, .string { data := #[101, 108, 115, 101] }, .string { data := #[109, 97, 116, 99, 104] }, .string { data := #[119, 105, 116, 104] }, .string { data := #[116, 121, 112, 101] }, .string { data := #[111, 102] }, .string { data := #[116, 114, 117, 101] }, .string { data := #[102, 97, 108, 115, 101] }] w.heap.size (w.heap.size + 1) w wr ∧ ∀ i b, i < j → Lx.keys[i]? = some b → (b == (s.extract a k).toList) = false) (fun i _ => 13 - (intOf i).toNat)
        case atStart => exact ⟨0, by omega, rfl, tab_new _ _, by intros; omega⟩
        case round =>
          obtain ⟨j, hj, rfl, htab, hno⟩ := hrel
          have HNO := Lib.hid hno
          have HB := Lib.hid htab.2
          by_cases hjl : j < 13
          · obtain ⟨b, hb, hkey⟩ := key_at j hjl
            have hcell := (htab.1 j hjl).trans hb
            have HTAB := Lib.hid htab
            have HKEY := Lib.hid hkey
            clear htab hno hb hkey
            cases hq : (b.toList == (s.extract a k).toList)
            · go_wp2
              go_roundw
              case rel => exact ⟨j + 1, by omega, by go_num, HTAB.out, no_step HNO.out HKEY.out hq⟩
              case measure => simp [intOf]; omega
            · go_wp2
              go_ret2
              have e := HK.out
              exact one_ret (low_key HT.out e HE.out HKEY.out (by rw [← toL]; exact hq)) (by decide) rfl (by omega) HB.out
          · clear htab hno
            go_wp2
            go_ret2
            have e := HK.out
            exact one_ret (low_name HT.out e HE.out (fun i b hi => HNO.out i b (by omega))) (by decide) rfl (by omega) HB.out
    · go_wp2_with (first | (go_at_call 73; refine (rsmall_any _ _).mono ?_; rintro e w' ⟨rfl, rfl⟩) | (go_at_call 74; refine (rgreat_any _ _).mono ?_; rintro e w' ⟨rfl, rfl⟩) | (go_at_call 75; refine (rdigit_any _ _).mono ?_; rintro e w' ⟨rfl, rfl⟩))
      · have hkk := ch_all hlt hk (by omega) HR.out
        go_ret2
        exact one_ret (low_sign HT.out hkk ‹_›) (by decide) rfl (by omega) (Below.refl _ _)
      · have HK := Lib.hid (ch_all hlt hk (by omega) HR.out)
        have HE := Lib.hid (show ((s.extract a k).toList == [95]) = false from ‹_›)
        go_at_call 76
        refine (words_any _).mono ?_
        rintro e w' ⟨rfl, rfl⟩
        go_wp2
        go_loopw [10] (fun i wr => ∃ j : Nat, j ≤ 13 ∧ i = .int .i64 j ∧ Tab #[.string { data := #[108, 101, 116] }, .string { data := #[114, 101, 99] }, .string { data := #[105, 110] }, .string { data := #[102, 117, 110] }, .string { data := #[105, 102] }, .string { data := #[116, 104, 101, 110] }, .string { data := #[101, 108, 115, 101] }, .string { data := #[109, 97, 116, 99, 104] }, .string { data := #[119, 105, 116, 104] }, .string { data := #[116, 121, 112, 101] }, .string { data := #[111, 102] }, .string { data := #[116, 114, 117, 101] }, .string { data := #[102, 97, 108, 115, 101] }] w.heap.size (w.heap.size + 1) w wr ∧ ∀ i b, i < j → Lx.keys[i]? = some b → (b == (s.extract a k).toList) = false) (fun i _ => 13 - (intOf i).toNat)
        case atStart => exact ⟨0, by omega, rfl, tab_new _ _, by intros; omega⟩
        case round =>
          obtain ⟨j, hj, rfl, htab, hno⟩ := hrel
          have HNO := Lib.hid hno
          have HB := Lib.hid htab.2
          by_cases hjl : j < 13
          · obtain ⟨b, hb, hkey⟩ := key_at j hjl
            have hcell := (htab.1 j hjl).trans hb
            have HTAB := Lib.hid htab
            have HKEY := Lib.hid hkey
            clear htab hno hb hkey
            cases hq : (b.toList == (s.extract a k).toList)
            · go_wp2
              go_roundw
              case rel => exact ⟨j + 1, by omega, by go_num, HTAB.out, no_step HNO.out HKEY.out hq⟩
              case measure => simp [intOf]; omega
            · go_wp2
              go_ret2
              have e := HK.out
              exact one_ret (low_key HT.out e HE.out HKEY.out (by rw [← toL]; exact hq)) (by decide) rfl (by omega) HB.out
          · clear htab hno
            go_wp2
            go_ret2
            have e := HK.out
            exact one_ret (low_name HT.out e HE.out (fun i b hi => HNO.out i b (by omega))) (by decide) rfl (by omega) HB.out
set_option maxHeartbeats 1000000 in
theorem one_line (h1 : s[a].toNat = 95) : Calls Tryz.prog 67 #[.string s, .int .i64 a] w (OnePost s a w) := by
  have h0 : Lx.isSmall s[a] = false := by simp [Lx.isSmall, h1]
  have h2 : Lx.isGreat s[a] = false := by simp [Lx.isGreat, h1]
  have h3 := b95 h1
  have ht := tokF_eq s a h
  simp only [h0, h1, Bool.false_or, decide_true, if_true] at ht
  have HT := Lib.hid ht
  have HN := Lib.hid (show Lx.nameCh [39] s[a] = true from by simp [Lx.nameCh, Lx.isLetter, h1])
  clear ht h1
  go_enter Tryz.func67, Tryz.ntmps67
  go_wp2_with (first | (go_at_call 73; refine (rsmall_any _ _).mono ?_; rintro e w' ⟨rfl, rfl⟩) | (go_at_call 74; refine (rgreat_any _ _).mono ?_; rintro e w' ⟨rfl, rfl⟩) | (go_at_call 75; refine (rdigit_any _ _).mono ?_; rintro e w' ⟨rfl, rfl⟩))
  go_loop [7] (fun i => ∃ k : Nat, a + 1 ≤ k ∧ k ≤ s.size ∧ i = .int .i64 k ∧ k - a ≤ Lx.runN [39] (s.data.toList.drop a)) (fun i => s.size - (intOf i).toNat)
  case atStart => exact ⟨a + 1, by omega, by omega, by go_num, by have := ch_step h (Nat.le_refl a) (by omega) HN.out; omega⟩
  case round =>
    obtain ⟨k, hak, hk, rfl, hr⟩ := hrel
    have HR := Lib.hid hr
    clear hr
    by_cases hlt : k < s.size
    · go_wp2_with (first | (go_at_call 73; refine (rsmall_any _ _).mono ?_; rintro e w' ⟨rfl, rfl⟩) | (go_at_call 74; refine (rgreat_any _ _).mono ?_; rintro e w' ⟨rfl, rfl⟩) | (go_at_call 75; refine (rdigit_any _ _).mono ?_; rintro e w' ⟨rfl, rfl⟩))
      · go_round
        case rel => exact ⟨k + 1, by omega, by omega, by go_num, ch_step hlt (by omega) HR.out (ch_of (.inl ‹_›))⟩
        case measure => simp [intOf]; omega
      · go_round
        case rel => exact ⟨k + 1, by omega, by omega, by go_num, ch_step hlt (by omega) HR.out (ch_of (.inr (.inl ‹_›)))⟩
        case measure => simp [intOf]; omega
      · go_round
        case rel => exact ⟨k + 1, by omega, by omega, by go_num, ch_step hlt (by omega) HR.out (ch_of (.inr (.inr (.inl ‹_›))))⟩
        case measure => simp [intOf]; omega
      · go_round
        case rel => exact ⟨k + 1, by omega, by omega, by go_num, ch_step hlt (by omega) HR.out (ch_of (.inr (.inr (.inr (.inl ‹_›)))))⟩
        case measure => simp [intOf]; omega
      · go_round
        case rel => exact ⟨k + 1, by omega, by omega, by go_num, ch_step hlt (by omega) HR.out (ch_of (.inr (.inr (.inr (.inr ‹_›)))))⟩
        case measure => simp [intOf]; omega
      · have hkk := ch_stop hlt (by omega) HR.out (ch_not ‹_› ‹_› ‹_› ‹_ ∧ _›)
        go_ret2
        exact one_ret (low_sign HT.out hkk ‹_›) (by decide) rfl (by omega) (Below.refl _ _)
      · have HK := Lib.hid (ch_stop hlt (by omega) HR.out (ch_not ‹_› ‹_› ‹_› ‹_ ∧ _›))
        have HE := Lib.hid (show ((s.extract a k).toList == [95]) = false from ‹_›)
        go_at_call 76
        refine (words_any _).mono ?_
        rintro e w' ⟨rfl, rfl⟩
        go_wp2
        go_loopw [10] (fun i wr => ∃ j : Nat, j ≤ 13 ∧ i = .int .i64 j ∧ Tab #[.string { data := #[108, 101, 116] }, .string { data := #[114, 101, 99] }, .string { data := #[105, 110] }, .string { data := #[102, 117, 110] }, .string { data := #[105, 102] }, .string { data := #[116, 104, 101, 110] }, .string { data := #[101, 108, 115, 101] }, .string { data := #[109, 97, 116, 99, 104] }, .string { data := #[119, 105, 116, 104] }, .string { data := #[116, 121, 112, 101] }, .string { data := #[111, 102] }, .string { data := #[116, 114, 117, 101] }, .string { data := #[102, 97, 108, 115, 101] }] w.heap.size (w.heap.size + 1) w wr ∧ ∀ i b, i < j → Lx.keys[i]? = some b → (b == (s.extract a k).toList) = false) (fun i _ => 13 - (intOf i).toNat)
        case atStart => exact ⟨0, by omega, rfl, tab_new _ _, by intros; omega⟩
        case round =>
          obtain ⟨j, hj, rfl, htab, hno⟩ := hrel
          have HNO := Lib.hid hno
          have HB := Lib.hid htab.2
          by_cases hjl : j < 13
          · obtain ⟨b, hb, hkey⟩ := key_at j hjl
            have hcell := (htab.1 j hjl).trans hb
            have HTAB := Lib.hid htab
            have HKEY := Lib.hid hkey
            clear htab hno hb hkey
            cases hq : (b.toList == (s.extract a k).toList)
            · go_wp2
              go_roundw
              case rel => exact ⟨j + 1, by omega, by go_num, HTAB.out, no_step HNO.out HKEY.out hq⟩
              case measure => simp [intOf]; omega
            · go_wp2
              go_ret2
              have e := HK.out
              exact one_ret (low_key HT.out e HE.out HKEY.out (by rw [← toL]; exact hq)) (by decide) rfl (by omega) HB.out
          · clear htab hno
            go_wp2
            go_ret2
            have e := HK.out
            exact one_ret (low_name HT.out e HE.out (fun i b hi => HNO.out i b (by omega))) (by decide) rfl (by omega) HB.out
    · go_wp2_with (first | (go_at_call 73; refine (rsmall_any _ _).mono ?_; rintro e w' ⟨rfl, rfl⟩) | (go_at_call 74; refine (rgreat_any _ _).mono ?_; rintro e w' ⟨rfl, rfl⟩) | (go_at_call 75; refine (rdigit_any _ _).mono ?_; rintro e w' ⟨rfl, rfl⟩))
      · have hkk := ch_all hlt hk (by omega) HR.out
        go_ret2
        exact one_ret (low_sign HT.out hkk ‹_›) (by decide) rfl (by omega) (Below.refl _ _)
      · have HK := Lib.hid (ch_all hlt hk (by omega) HR.out)
        have HE := Lib.hid (show ((s.extract a k).toList == [95]) = false from ‹_›)
        go_at_call 76
        refine (words_any _).mono ?_
        rintro e w' ⟨rfl, rfl⟩
        go_wp2
        go_loopw [10] (fun i wr => ∃ j : Nat, j ≤ 13 ∧ i = .int .i64 j ∧ Tab #[.string { data := #[108, 101, 116] }, .string { data := #[114, 101, 99] }, .string { data := #[105, 110] }, .string { data := #[102, 117, 110] }, .string { data := #[105, 102] }, .string { data := #[116, 104, 101, 110] }, .string { data := #[101, 108, 115, 101] }, .string { data := #[109, 97, 116, 99, 104] }, .string { data := #[119, 105, 116, 104] }, .string { data := #[116, 121, 112, 101] }, .string { data := #[111, 102] }, .string { data := #[116, 114, 117, 101] }, .string { data := #[102, 97, 108, 115, 101] }] w.heap.size (w.heap.size + 1) w wr ∧ ∀ i b, i < j → Lx.keys[i]? = some b → (b == (s.extract a k).toList) = false) (fun i _ => 13 - (intOf i).toNat)
        case atStart => exact ⟨0, by omega, rfl, tab_new _ _, by intros; omega⟩
        case round =>
          obtain ⟨j, hj, rfl, htab, hno⟩ := hrel
          have HNO := Lib.hid hno
          have HB := Lib.hid htab.2
          by_cases hjl : j < 13
          · obtain ⟨b, hb, hkey⟩ := key_at j hjl
            have hcell := (htab.1 j hjl).trans hb
            have HTAB := Lib.hid htab
            have HKEY := Lib.hid hkey
            clear htab hno hb hkey
            cases hq : (b.toList == (s.extract a k).toList)
            · go_wp2
              go_roundw
              case rel => exact ⟨j + 1, by omega, by go_num, HTAB.out, no_step HNO.out HKEY.out hq⟩
              case measure => simp [intOf]; omega
            · go_wp2
              go_ret2
              have e := HK.out
              exact one_ret (low_key HT.out e HE.out HKEY.out (by rw [← toL]; exact hq)) (by decide) rfl (by omega) HB.out
          · clear htab hno
            go_wp2
            go_ret2
            have e := HK.out
            exact one_ret (low_name HT.out e HE.out (fun i b hi => HNO.out i b (by omega))) (by decide) rfl (by omega) HB.out
end
end Go.Proofs.YtmpmibebkflaiaaGreatDoor
