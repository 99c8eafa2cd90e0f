/- The contracts of the library's calls that lex makes, and of lex's predicates on texts. -/
import Derived.Test.YteialkkpoikelaaLexA
import Derived.Lib.Bytealg
import Derived.Lib.IndexAny
import Derived.Lib.IndexBytes
import Derived.WalkLawsBesides
import Derived.WalkSpells
namespace Go.Proofs.Yteialkkpoikelaa
open Go.RowKit Go.Lib
set_option maxRecDepth 100000

/-! ### a text as a list -/
theorem sz (s : ByteArray) : s.size = s.data.toList.length := rfl
theorem at0 (s : ByteArray) (k : Nat) (h : k < s.size) : s.data.toList[k]? = some s[k] := by
  rw [List.getElem?_eq_getElem (by simpa using h)]; rfl
theorem toL (s : ByteArray) : s.toList = s.data.toList := Lib.toList_data s
theorem cut_toL (s : ByteArray) (a b : Nat) : (s.extract a b).toList = (s.data.toList.drop a).take (b - a) := by
  rw [toL, Lib.extract_data]
theorem two_of {s : ByteArray} (h : 2 ≤ s.size) : ∃ a b t, s.data.toList = a :: b :: t ∧ s[0] = a ∧ s[1] = b ∧ (s.extract 0 2).toList = [a, b] := by
  rcases e : s.data.toList with _ | ⟨a, _ | ⟨b, t⟩⟩
  · rw [sz, e] at h; simp at h
  · rw [sz, e] at h; simp at h
  · refine ⟨a, b, t, rfl, ?_, ?_, ?_⟩
    · have := at0 s 0 (by omega); rw [e] at this; simpa using this.symm
    · have := at0 s 1 (by omega); rw [e] at this; simpa using this.symm
    · rw [cut_toL, e]; rfl
theorem one_of {s : ByteArray} (h0 : 0 < s.size) (h : s.size < 2) : ∃ a, s.data.toList = [a] ∧ s[0] = a := by
  rcases e : s.data.toList with _ | ⟨a, _ | ⟨b, t⟩⟩
  · rw [sz, e] at h0; simp at h0
  · refine ⟨a, rfl, ?_⟩
    have := at0 s 0 h0; rw [e] at this; simpa using this.symm
  · rw [sz, e] at h; simp at h; omega
theorem nil_of {s : ByteArray} (h : s.size = 0) : s.data.toList = [] := List.eq_nil_of_length_eq_zero (by rw [← sz]; exact h)

theorem liteIndexByte_any (s : ByteArray) (c : Int) (w : World) :
    Calls Try.prog 42 #[.string s, .int .u8 c] w fun e w' => e = .returned (.int .i64 (Lib.indexByte s.data.toList c.toNat.toUInt8)) ∧ w = w' := by
  go_enter Try.func42, Try.ntmps42
  go_wp2
  rw [run_callFunc_extern Try.func43 (by kernel_rfl) (by kernel_rfl) (by kernel_rfl) (e := Extern.BytealgIndexByte.indexByte) (by kernel_rfl), Lib.run_indexByteString]
  simp only [Result.andThen]
  rw [Oper.upon_value]
  go_wp2
  go_ret
  exact ⟨rfl, rfl⟩
theorem indexByte_any (s : ByteArray) (c : Int) (w : World) :
    Calls Try.prog 41 #[.string s, .int .u8 c] w fun e w' => e = .returned (.int .i64 (Lib.indexByte s.data.toList c.toNat.toUInt8)) ∧ w = w' := by
  go_enter Try.func41, Try.ntmps41
  go_wp2_with (go_at_call 42; refine (liteIndexByte_any _ _ _).mono ?_; rintro e w' ⟨rfl, rfl⟩)
  go_ret
  exact ⟨rfl, rfl⟩

theorem prefix_yes {s p : ByteArray} (_h : p.size ≤ s.size) : ((s.extract 0 p.size).toList == p.toList) = Lx.preB p.data.toList s.data.toList := by
  rw [cut_toL, toL, Lx.preB, Bool.eq_iff_iff, List.isPrefixOf_iff_prefix, beq_iff_eq, List.prefix_iff_eq_take]
  simp only [List.drop_zero, Nat.sub_zero]
  exact ⟨fun h => h.symm, fun h => h.symm⟩
theorem prefix_no {s p : ByteArray} (h : ¬ p.size ≤ s.size) : false = Lx.preB p.data.toList s.data.toList := by
  symm
  rw [Bool.eq_false_iff]
  intro hp
  have := (List.isPrefixOf_iff_prefix.1 hp).length_le
  rw [← sz, ← sz] at this
  exact h this
theorem liteHasPrefix_any (s p : ByteArray) (w : World) :
    Calls Try.prog 27 #[.string s, .string p] w fun e w' => e = .returned (.bool (Lx.preB p.data.toList s.data.toList)) ∧ w = w' := by
  go_enter Try.func27, Try.ntmps27
  go_wp2
  all_goals go_ret
  · exact ⟨ret_bool (prefix_yes ‹_›), rfl⟩
  · exact ⟨ret_bool (prefix_no ‹_›), rfl⟩
theorem hasPrefix_any (s p : ByteArray) (w : World) :
    Calls Try.prog 20 #[.string s, .string p] w fun e w' => e = .returned (.bool (Lx.preB p.data.toList s.data.toList)) ∧ w = w' := by
  go_enter Try.func20, Try.ntmps20
  go_wp2_with (go_at_call 27; refine (liteHasPrefix_any _ _ _).mono ?_; rintro e w' ⟨rfl, rfl⟩)
  go_ret
  exact ⟨rfl, rfl⟩

theorem tick_short {s : ByteArray} (h : (s.size : Int) < 2) : Lx.isTick s.data.toList = false := by
  rcases Nat.eq_zero_or_pos s.size with h0 | h0
  · rw [nil_of h0]; rfl
  · obtain ⟨a, e, _⟩ := one_of h0 (by omega)
    rw [e]; rfl
theorem tick_long {s : ByteArray} (h : 2 ≤ (s.size : Int)) : ∃ _ : 0 < s.size, ∃ _ : 1 < s.size, Lx.isTick s.data.toList = (decide (s[0].toNat = 39) && Lx.isSmall s[1]) := by
  obtain ⟨a, b, t, e, h0, h1, _⟩ := two_of (s := s) (by omega)
  refine ⟨by omega, by omega, ?_⟩
  rw [e, h0, h1]; rfl
theorem isTick_any (s : ByteArray) (w : World) :
    Calls Try.prog 33 #[.string s] w fun e w' => e = .returned (.bool (Lx.isTick s.data.toList)) ∧ w = w' := by
  go_enter Try.func33, Try.ntmps33
  go_wp2_with (go_at_call 28; refine (isSmall_any _ _).mono ?_; rintro e w' ⟨rfl, rfl⟩)
  all_goals go_ret
  · have h2 : 2 ≤ (s.size : Int) := by assumption
    obtain ⟨_, _, e⟩ := tick_long h2
    have h3 : (s[0].toNat : Int) = 39 := by assumption
    exact ⟨ret_bool (by rw [e]; simp; omega), rfl⟩
  · have h2 : 2 ≤ (s.size : Int) := by assumption
    obtain ⟨_, _, e⟩ := tick_long h2
    have h3 : ¬ (s[0].toNat : Int) = 39 := by assumption
    exact ⟨ret_bool (by rw [e]; simp; omega), rfl⟩
  · exact ⟨ret_bool (tick_short ‹_›).symm, rfl⟩

theorem ones_idx (a : UInt8) : Lx.ones.contains a = decide (0 ≤ indexByte [40, 41, 44, 124, 61, 60, 43, 45, 42, 95] a) := contains_iff_indexByte _ _
theorem sign_two {s : ByteArray} (h : 2 ≤ (s.size : Int)) (h' : (s.extract 0 2).toList = [45, 62] ∨ (s.extract 0 2).toList = [58, 58] ∨ (s.extract 0 2).toList = [59, 59]) : Lx.signN s.data.toList = 2 := by
  obtain ⟨a, b, t, e, h0, h1, h2⟩ := two_of (s := s) (by omega)
  rw [h2] at h'
  rw [e]
  have : Lx.twoSign a b = true := by
    rcases h' with h' | h' | h' <;> (simp at h'; obtain ⟨rfl, rfl⟩ := h'; rfl)
  simp [Lx.signN, this]
theorem sign_one {s : ByteArray} (h0 : 0 < s.size) (h' : (s.size : Int) < 2 ∨ ¬ (s.extract 0 2).toList = [45, 62] ∧ ¬ (s.extract 0 2).toList = [58, 58] ∧ ¬ (s.extract 0 2).toList = [59, 59]) :
    Lx.signN s.data.toList = if 0 ≤ indexByte [40, 41, 44, 124, 61, 60, 43, 45, 42, 95] s[0] then 1 else 0 := by
  rcases Nat.lt_or_ge s.size 2 with h2 | h2
  · obtain ⟨a, e, e0⟩ := one_of h0 h2
    rw [e, e0, Lx.signN, ones_idx]
    simp
  · obtain ⟨a, b, t, e, e0, _, e2⟩ := two_of h2
    rw [e2] at h'
    have : Lx.twoSign a b = false := by
      rcases h' with h' | ⟨x, y, z⟩
      · omega
      · simp only [List.cons.injEq, and_true] at x y z
        simp [Lx.twoSign]
        exact ⟨⟨fun h k => x ⟨h, k⟩, fun h k => y ⟨h, k⟩⟩, fun h k => z ⟨h, k⟩⟩
    rw [e, e0]
    simp only [Lx.signN, this, ones_idx]
    simp
theorem sign_two' {s : ByteArray} (h : 2 ≤ (s.size : Int)) (h' : (((s.extract 0 2).toList == [45, 62]) = true ∨ ((s.extract 0 2).toList == [58, 58]) = true) ∨ ((s.extract 0 2).toList == [59, 59]) = true) : (2 : Int) = (Lx.signN s.data.toList : Int) := by
  simp only [beq_iff_eq] at h'
  rw [sign_two h (by rcases h' with (h | h) | h <;> simp [h])]; rfl
theorem sign_hit {s : ByteArray} (h0 : 0 < s.size) (h' : (s.size : Int) < 2 ∨ (((s.extract 0 2).toList == [45, 62]) = false ∧ ((s.extract 0 2).toList == [58, 58]) = false) ∧ ((s.extract 0 2).toList == [59, 59]) = false)
    (hi : 0 ≤ indexByte [40, 41, 44, 124, 61, 60, 43, 45, 42, 95] s[0]) : (1 : Int) = (Lx.signN s.data.toList : Int) := by
  simp only [beq_eq_false_iff_ne, ne_eq] at h'
  rw [sign_one h0 (h'.imp id fun h => ⟨h.1.1, h.1.2, h.2⟩), if_pos hi]; rfl
theorem sign_miss {s : ByteArray} (h0 : 0 < s.size) (h' : (s.size : Int) < 2 ∨ (((s.extract 0 2).toList == [45, 62]) = false ∧ ((s.extract 0 2).toList == [58, 58]) = false) ∧ ((s.extract 0 2).toList == [59, 59]) = false)
    (hi : indexByte [40, 41, 44, 124, 61, 60, 43, 45, 42, 95] s[0] < 0) : (0 : Int) = (Lx.signN s.data.toList : Int) := by
  simp only [beq_eq_false_iff_ne, ne_eq] at h'
  rw [sign_one h0 (h'.imp id fun h => ⟨h.1.1, h.1.2, h.2⟩), if_neg (by omega)]; rfl
theorem signLength_any (s : ByteArray) (h0 : 0 < s.size) (w : World) :
    Calls Try.prog 34 #[.string s] w fun e w' => e = .returned (.int .i64 (Lx.signN s.data.toList)) ∧ w = w' := by
  go_enter Try.func34, Try.ntmps34
  go_wp2_with (go_at_call 41; refine (indexByte_any _ _ _).mono ?_; rintro e w' ⟨rfl, rfl⟩)
  all_goals go_ret
  · exact ⟨ret_int (by rw [sign_two ‹_› (.inl ‹_›)]; rfl), rfl⟩
  · exact ⟨ret_int (by rw [sign_two ‹_› (.inr (.inl ‹_›))]; rfl), rfl⟩
  · exact ⟨ret_int (sign_two' ‹_› ‹_›), rfl⟩
  · exact ⟨ret_int (sign_hit h0 (.inr ‹_›) ‹_›), rfl⟩
  · exact ⟨ret_int (sign_miss h0 (.inr ‹_›) ‹_›), rfl⟩
  · exact ⟨ret_int (sign_hit h0 (.inl ‹_›) ‹_›), rfl⟩
  · exact ⟨ret_int (sign_miss h0 (.inl ‹_›) ‹_›), rfl⟩
end Go.Proofs.Yteialkkpoikelaa
