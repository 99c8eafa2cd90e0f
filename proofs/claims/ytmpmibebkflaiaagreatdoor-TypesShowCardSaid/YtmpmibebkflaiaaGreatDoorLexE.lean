/- What the lexer computes, as plain functions on lists of bytes. The contracts of lex's small predicates. The contracts of the library's calls that lex makes, and of lex's predicates on texts. The contracts of lex's readers of one token. The contract of the lexer's loop over remarks. Plain facts on what the lexer computes. The contract of Lex: it answers the tokens that 'Lx.lexF' tells, in new memory. -/
import Derived.Test.YtmpmibebkflaiaaGreatDoorProg
import Derived.WalkKit
import Derived.Lib.Bytealg
import Derived.Lib.IndexAny
import Derived.Lib.IndexBytes
import Derived.WalkLawsBesides
import Derived.WalkSpells
import Derived.Lib.Hide
import Derived.Deep.Light
import Derived.Maps.AppendAt
import Derived.WalkMore
namespace Go.Proofs.YtmpmibebkflaiaaGreatDoor
namespace Lx

def isSmall (c : UInt8) : Bool := decide (97 ≤ c.toNat ∧ c.toNat ≤ 122)
def isGreat (c : UInt8) : Bool := decide (65 ≤ c.toNat ∧ c.toNat ≤ 90)
def isDigit (c : UInt8) : Bool := decide (48 ≤ c.toNat ∧ c.toNat ≤ 57)
def isWhite (c : UInt8) : Bool := decide (c.toNat = 32 ∨ c.toNat = 9 ∨ c.toNat = 10 ∨ c.toNat = 13)
def isLetter (c : UInt8) : Bool := isSmall c || isGreat c || isDigit c || decide (c.toNat = 95)
/-- letters, digits, '_', and the bytes of m. -/
def nameCh (m : List UInt8) (c : UInt8) : Bool := isLetter c || m.contains c
def runN (m : List UInt8) (l : List UInt8) : Nat := (l.takeWhile (nameCh m)).length
def digN (l : List UInt8) : Nat := (l.takeWhile isDigit).length
def isTick : List UInt8 → Bool
  | a :: b :: _ => decide (a.toNat = 39) && isSmall b
  | _ => false
def ones : List UInt8 := [40, 41, 44, 124, 61, 60, 43, 45, 42, 95]
def twoSign (a b : UInt8) : Bool := (a == 45 && b == 62) || (a == 58 && b == 58) || (a == 59 && b == 59)
def signN : List UInt8 → Nat
  | [] => 0
  | [a] => if ones.contains a then 1 else 0
  | a :: b :: _ => if twoSign a b then 2 else if ones.contains a then 1 else 0
def begins : List UInt8 → Bool
  | [] => false
  | c :: t => isWhite c || isSmall c || isGreat c || isDigit c || isTick (c :: t) || decide (0 < signN (c :: t))
/-- how many bytes of an error stand behind its first one. -/
def errN : List UInt8 → Nat
  | [] => 0
  | c :: t => if begins (c :: t) then 0 else errN t + 1
def keys : List (List UInt8) := [[108,101,116],[114,101,99],[105,110],[102,117,110],[105,102],[116,104,101,110],[101,108,115,101],[109,97,116,99,104],[119,105,116,104],[116,121,112,101],[111,102],[116,114,117,101],[102,97,108,115,101]]
def nameKind (w : List UInt8) : Nat := if w == [95] then 6 else if keys.contains w then 5 else 1
/-- the kind and the length of the token at a list's beginning. -/
def tokF : List UInt8 → Nat × Nat
  | [] => (7, 1)
  | c :: t =>
    if isSmall c || decide (c.toNat = 95) then (nameKind ((c :: t).take (runN [39] (c :: t))), runN [39] (c :: t))
    else if isGreat c then (2, runN [39] (c :: t))
    else if isDigit c then (3, digN t + 1)
    else if isTick (c :: t) then (4, runN [] t + 1)
    else if 0 < signN (c :: t) then (6, signN (c :: t))
    else (7, errN t + 1)
/-- how many bytes the rest of a remark has, so many remarks being open. -/
def remN : Nat → List UInt8 → Option Nat
  | d, a :: b :: t =>
    if a.toNat = 40 ∧ b.toNat = 42 then (remN (d + 1) t).map (· + 2)
    else if a.toNat = 42 ∧ b.toNat = 41 then (if d = 1 then some 2 else (remN (d - 1) t).map (· + 2))
    else (remN d (b :: t)).map (· + 1)
  | _, _ => none
def opens : List UInt8 → Bool
  | a :: b :: _ => decide (a.toNat = 40 ∧ b.toNat = 42)
  | _ => false
/-- does a list begin with another one? -/
def preB (p l : List UInt8) : Bool := p.isPrefixOf l
structure Tok where
  kind : Nat
  a : Nat
  b : Nat
deriving DecidableEq, Repr
/-- the tokens of a list of bytes of which the first one is byte p. -/
def lexN : Nat → Nat → List UInt8 → List Tok
  | 0, _, _ => []
  | _ + 1, _, [] => []
  | f + 1, p, c :: t =>
    if isWhite c then lexN f (p + 1) t
    else if opens (c :: t) then
      match remN 0 (c :: t) with
      | none => [⟨7, p, p + (c :: t).length⟩]
      | some n => lexN f (p + n) ((c :: t).drop n)
    else ⟨(tokF (c :: t)).1, p, p + (tokF (c :: t)).2⟩ :: lexN f (p + (tokF (c :: t)).2) ((c :: t).drop (tokF (c :: t)).2)
def lexF (l : List UInt8) : List Tok := lexN (l.length + 1) 0 l
end Lx
end Go.Proofs.YtmpmibebkflaiaaGreatDoor
namespace Go.Proofs.YtmpmibebkflaiaaGreatDoor
open Go.RowKit
set_option maxRecDepth 100000

theorem ret_bool {a b : Bool} (h : a = b) : Ending.returned (.bool a) = .returned (.bool b) := by rw [h]
theorem ret_int {k : IntKind} {a b : Int} (h : a = b) : Ending.returned (.int k a) = .returned (.int k b) := by rw [h]

theorem isWhite_any (c : UInt8) (w : World) : Calls Tryz.prog 39 #[.int .u8 (c.toNat : Int)] w fun e w' => e = .returned (.bool (Lx.isWhite c)) ∧ w = w' := by
  go_enter Tryz.func39, Tryz.ntmps39
  go_wp2
  all_goals
    go_ret
    exact ⟨ret_bool (by rw [Bool.eq_iff_iff]; simp [Lx.isWhite]; omega), rfl⟩
theorem isSmall_any (c : UInt8) (w : World) : Calls Tryz.prog 50 #[.int .u8 (c.toNat : Int)] w fun e w' => e = .returned (.bool (Lx.isSmall c)) ∧ w = w' := by
  go_enter Tryz.func50, Tryz.ntmps50
  go_wp2
  all_goals
    go_ret
    exact ⟨ret_bool (by rw [Bool.eq_iff_iff]; simp [Lx.isSmall]; omega), rfl⟩
theorem isGreat_any (c : UInt8) (w : World) : Calls Tryz.prog 53 #[.int .u8 (c.toNat : Int)] w fun e w' => e = .returned (.bool (Lx.isGreat c)) ∧ w = w' := by
  go_enter Tryz.func53, Tryz.ntmps53
  go_wp2
  all_goals
    go_ret
    exact ⟨ret_bool (by rw [Bool.eq_iff_iff]; simp [Lx.isGreat]; omega), rfl⟩
theorem isDigit_any (c : UInt8) (w : World) : Calls Tryz.prog 54 #[.int .u8 (c.toNat : Int)] w fun e w' => e = .returned (.bool (Lx.isDigit c)) ∧ w = w' := by
  go_enter Tryz.func54, Tryz.ntmps54
  go_wp2
  all_goals
    go_ret
    exact ⟨ret_bool (by rw [Bool.eq_iff_iff]; simp [Lx.isDigit]; omega), rfl⟩
end Go.Proofs.YtmpmibebkflaiaaGreatDoor
namespace Go.Proofs.YtmpmibebkflaiaaGreatDoor
open Go.RowKit Go.Lib
set_option maxRecDepth 100000

/-! ### a text as a list -/
theorem sz (s : ByteArray) : s.size = s.data.toList.length := rfl
theorem at0 (s : ByteArray) (k : Nat) (h : k < s.size) : s.data.toList[k]? = some s[k] := by
  rw [List.getElem?_eq_getElem (by simpa using h)]; rfl
theorem toL (s : ByteArray) : s.toList = s.data.toList := Lib.toList_data s
theorem cut_toL (s : ByteArray) (a b : Nat) : (s.extract a b).toList = (s.data.toList.drop a).take (b - a) := by
  rw [toL, Lib.extract_data]
theorem two_of {s : ByteArray} (h : 2 ≤ s.size) : ∃ a b t, s.data.toList = a :: b :: t ∧ s[0] = a ∧ s[1] = b ∧ (s.extract 0 2).toList = [a, b] := by
  rcases e : s.data.toList with _ | ⟨a, _ | ⟨b, t⟩⟩
  · rw [sz, e] at h; simp at h
  · rw [sz, e] at h; simp at h
  · refine ⟨a, b, t, rfl, ?_, ?_, ?_⟩
    · have := at0 s 0 (by omega); rw [e] at this; simpa using this.symm
    · have := at0 s 1 (by omega); rw [e] at this; simpa using this.symm
    · rw [cut_toL, e]; rfl
theorem one_of {s : ByteArray} (h0 : 0 < s.size) (h : s.size < 2) : ∃ a, s.data.toList = [a] ∧ s[0] = a := by
  rcases e : s.data.toList with _ | ⟨a, _ | ⟨b, t⟩⟩
  · rw [sz, e] at h0; simp at h0
  · refine ⟨a, rfl, ?_⟩
    have := at0 s 0 h0; rw [e] at this; simpa using this.symm
  · rw [sz, e] at h; simp at h; omega
theorem nil_of {s : ByteArray} (h : s.size = 0) : s.data.toList = [] := List.eq_nil_of_length_eq_zero (by rw [← sz]; exact h)

theorem liteIndexByte_any (s : ByteArray) (c : Int) (w : World) :
    Calls Tryz.prog 82 #[.string s, .int .u8 c] w fun e w' => e = .returned (.int .i64 (Lib.indexByte s.data.toList c.toNat.toUInt8)) ∧ w = w' := by
  go_enter Tryz.func82, Tryz.ntmps82
  go_wp2
  rw [run_callFunc_extern Tryz.func90 (by kernel_rfl) (by kernel_rfl) (by kernel_rfl) (e := Extern.BytealgIndexByte.indexByte) (by kernel_rfl), Lib.run_indexByteString]
  simp only [Result.andThen]
  rw [Oper.upon_value]
  go_wp2
  go_ret
  exact ⟨rfl, rfl⟩
theorem indexByte_any (s : ByteArray) (c : Int) (w : World) :
    Calls Tryz.prog 70 #[.string s, .int .u8 c] w fun e w' => e = .returned (.int .i64 (Lib.indexByte s.data.toList c.toNat.toUInt8)) ∧ w = w' := by
  go_enter Tryz.func70, Tryz.ntmps70
  go_wp2_with (go_at_call 82; refine (liteIndexByte_any _ _ _).mono ?_; rintro e w' ⟨rfl, rfl⟩)
  go_ret
  exact ⟨rfl, rfl⟩

theorem prefix_yes {s p : ByteArray} (_h : p.size ≤ s.size) : ((s.extract 0 p.size).toList == p.toList) = Lx.preB p.data.toList s.data.toList := by
  rw [cut_toL, toL, Lx.preB, Bool.eq_iff_iff, List.isPrefixOf_iff_prefix, beq_iff_eq, List.prefix_iff_eq_take]
  simp only [List.drop_zero, Nat.sub_zero]
  exact ⟨fun h => h.symm, fun h => h.symm⟩
theorem prefix_no {s p : ByteArray} (h : ¬ p.size ≤ s.size) : false = Lx.preB p.data.toList s.data.toList := by
  symm
  rw [Bool.eq_false_iff]
  intro hp
  have := (List.isPrefixOf_iff_prefix.1 hp).length_le
  rw [← sz, ← sz] at this
  exact h this
theorem liteHasPrefix_any (s p : ByteArray) (w : World) :
    Calls Tryz.prog 49 #[.string s, .string p] w fun e w' => e = .returned (.bool (Lx.preB p.data.toList s.data.toList)) ∧ w = w' := by
  go_enter Tryz.func49, Tryz.ntmps49
  go_wp2
  all_goals go_ret
  · exact ⟨ret_bool (prefix_yes ‹_›), rfl⟩
  · exact ⟨ret_bool (prefix_no ‹_›), rfl⟩
theorem hasPrefix_any (s p : ByteArray) (w : World) :
    Calls Tryz.prog 40 #[.string s, .string p] w fun e w' => e = .returned (.bool (Lx.preB p.data.toList s.data.toList)) ∧ w = w' := by
  go_enter Tryz.func40, Tryz.ntmps40
  go_wp2_with (go_at_call 49; refine (liteHasPrefix_any _ _ _).mono ?_; rintro e w' ⟨rfl, rfl⟩)
  go_ret
  exact ⟨rfl, rfl⟩

theorem tick_short {s : ByteArray} (h : (s.size : Int) < 2) : Lx.isTick s.data.toList = false := by
  rcases Nat.eq_zero_or_pos s.size with h0 | h0
  · rw [nil_of h0]; rfl
  · obtain ⟨a, e, _⟩ := one_of h0 (by omega)
    rw [e]; rfl
theorem tick_long {s : ByteArray} (h : 2 ≤ (s.size : Int)) : ∃ _ : 0 < s.size, ∃ _ : 1 < s.size, Lx.isTick s.data.toList = (decide (s[0].toNat = 39) && Lx.isSmall s[1]) := by
  obtain ⟨a, b, t, e, h0, h1, _⟩ := two_of (s := s) (by omega)
  refine ⟨by omega, by omega, ?_⟩
  rw [e, h0, h1]; rfl
theorem isTick_any (s : ByteArray) (w : World) :
    Calls Tryz.prog 55 #[.string s] w fun e w' => e = .returned (.bool (Lx.isTick s.data.toList)) ∧ w = w' := by
  go_enter Tryz.func55, Tryz.ntmps55
  go_wp2_with (go_at_call 50; refine (isSmall_any _ _).mono ?_; rintro e w' ⟨rfl, rfl⟩)
  all_goals go_ret
  · have h2 : 2 ≤ (s.size : Int) := by assumption
    obtain ⟨_, _, e⟩ := tick_long h2
    have h3 : (s[0].toNat : Int) = 39 := by assumption
    exact ⟨ret_bool (by rw [e]; simp; omega), rfl⟩
  · have h2 : 2 ≤ (s.size : Int) := by assumption
    obtain ⟨_, _, e⟩ := tick_long h2
    have h3 : ¬ (s[0].toNat : Int) = 39 := by assumption
    exact ⟨ret_bool (by rw [e]; simp; omega), rfl⟩
  · exact ⟨ret_bool (tick_short ‹_›).symm, rfl⟩

theorem ones_idx (a : UInt8) : Lx.ones.contains a = decide (0 ≤ indexByte [40, 41, 44, 124, 61, 60, 43, 45, 42, 95] a) := contains_iff_indexByte _ _
theorem sign_two {s : ByteArray} (h : 2 ≤ (s.size : Int)) (h' : (s.extract 0 2).toList = [45, 62] ∨ (s.extract 0 2).toList = [58, 58] ∨ (s.extract 0 2).toList = [59, 59]) : Lx.signN s.data.toList = 2 := by
  obtain ⟨a, b, t, e, h0, h1, h2⟩ := two_of (s := s) (by omega)
  rw [h2] at h'
  rw [e]
  have : Lx.twoSign a b = true := by
    rcases h' with h' | h' | h' <;> (simp at h'; obtain ⟨rfl, rfl⟩ := h'; rfl)
  simp [Lx.signN, this]
theorem sign_one {s : ByteArray} (h0 : 0 < s.size) (h' : (s.size : Int) < 2 ∨ ¬ (s.extract 0 2).toList = [45, 62] ∧ ¬ (s.extract 0 2).toList = [58, 58] ∧ ¬ (s.extract 0 2).toList = [59, 59]) :
    Lx.signN s.data.toList = if 0 ≤ indexByte [40, 41, 44, 124, 61, 60, 43, 45, 42, 95] s[0] then 1 else 0 := by
  rcases Nat.lt_or_ge s.size 2 with h2 | h2
  · obtain ⟨a, e, e0⟩ := one_of h0 h2
    rw [e, e0, Lx.signN, ones_idx]
    simp
  · obtain ⟨a, b, t, e, e0, _, e2⟩ := two_of h2
    rw [e2] at h'
    have : Lx.twoSign a b = false := by
      rcases h' with h' | ⟨x, y, z⟩
      · omega
      · simp only [List.cons.injEq, and_true] at x y z
        simp [Lx.twoSign]
        exact ⟨⟨fun h k => x ⟨h, k⟩, fun h k => y ⟨h, k⟩⟩, fun h k => z ⟨h, k⟩⟩
    rw [e, e0]
    simp only [Lx.signN, this, ones_idx]
    simp
theorem sign_two' {s : ByteArray} (h : 2 ≤ (s.size : Int)) (h' : (((s.extract 0 2).toList == [45, 62]) = true ∨ ((s.extract 0 2).toList == [58, 58]) = true) ∨ ((s.extract 0 2).toList == [59, 59]) = true) : (2 : Int) = (Lx.signN s.data.toList : Int) := by
  simp only [beq_iff_eq] at h'
  rw [sign_two h (by rcases h' with (h | h) | h <;> simp [h])]; rfl
theorem sign_hit {s : ByteArray} (h0 : 0 < s.size) (h' : (s.size : Int) < 2 ∨ (((s.extract 0 2).toList == [45, 62]) = false ∧ ((s.extract 0 2).toList == [58, 58]) = false) ∧ ((s.extract 0 2).toList == [59, 59]) = false)
    (hi : 0 ≤ indexByte [40, 41, 44, 124, 61, 60, 43, 45, 42, 95] s[0]) : (1 : Int) = (Lx.signN s.data.toList : Int) := by
  simp only [beq_eq_false_iff_ne, ne_eq] at h'
  rw [sign_one h0 (h'.imp id fun h => ⟨h.1.1, h.1.2, h.2⟩), if_pos hi]; rfl
theorem sign_miss {s : ByteArray} (h0 : 0 < s.size) (h' : (s.size : Int) < 2 ∨ (((s.extract 0 2).toList == [45, 62]) = false ∧ ((s.extract 0 2).toList == [58, 58]) = false) ∧ ((s.extract 0 2).toList == [59, 59]) = false)
    (hi : indexByte [40, 41, 44, 124, 61, 60, 43, 45, 42, 95] s[0] < 0) : (0 : Int) = (Lx.signN s.data.toList : Int) := by
  simp only [beq_eq_false_iff_ne, ne_eq] at h'
  rw [sign_one h0 (h'.imp id fun h => ⟨h.1.1, h.1.2, h.2⟩), if_neg (by omega)]; rfl
theorem signLength_any (s : ByteArray) (h0 : 0 < s.size) (w : World) :
    Calls Tryz.prog 56 #[.string s] w fun e w' => e = .returned (.int .i64 (Lx.signN s.data.toList)) ∧ w = w' := by
  go_enter Tryz.func56, Tryz.ntmps56
  go_wp2_with (go_at_call 70; refine (indexByte_any _ _ _).mono ?_; rintro e w' ⟨rfl, rfl⟩)
  all_goals go_ret
  · exact ⟨ret_int (by rw [sign_two ‹_› (.inl ‹_›)]; rfl), rfl⟩
  · exact ⟨ret_int (by rw [sign_two ‹_› (.inr (.inl ‹_›))]; rfl), rfl⟩
  · exact ⟨ret_int (sign_two' ‹_› ‹_›), rfl⟩
  · exact ⟨ret_int (sign_hit h0 (.inr ‹_›) ‹_›), rfl⟩
  · exact ⟨ret_int (sign_miss h0 (.inr ‹_›) ‹_›), rfl⟩
  · exact ⟨ret_int (sign_hit h0 (.inl ‹_›) ‹_›), rfl⟩
  · exact ⟨ret_int (sign_miss h0 (.inl ‹_›) ‹_›), rfl⟩
end Go.Proofs.YtmpmibebkflaiaaGreatDoor
namespace Go.Proofs.YtmpmibebkflaiaaGreatDoor
open Go.RowKit Go.Lib
set_option maxRecDepth 100000

theorem begins_eq {s : ByteArray} (h0 : 0 < s.size) : Lx.begins s.data.toList = (Lx.isWhite s[0] || Lx.isSmall s[0] || Lx.isGreat s[0] || Lx.isDigit s[0] || Lx.isTick s.data.toList || decide (0 < Lx.signN s.data.toList)) := by
  rcases e : s.data.toList with _ | ⟨c, t⟩
  · rw [sz, e] at h0; simp at h0
  · have := at0 s 0 h0
    rw [e] at this
    have hc : s[0] = c := by simpa using this.symm
    rw [hc]; rfl
theorem begins_any (s : ByteArray) (h0 : 0 < s.size) (w : World) :
    Calls Tryz.prog 57 #[.string s] w fun e w' => e = .returned (.bool (Lx.begins s.data.toList)) ∧ w = w' := by
  have HB := Lib.hid (begins_eq h0)
  go_enter Tryz.func57, Tryz.ntmps57
  go_wp2_with (first | (go_at_call 39; refine (isWhite_any _ _).mono ?_; rintro e w' ⟨rfl, rfl⟩) | (go_at_call 50; refine (isSmall_any _ _).mono ?_; rintro e w' ⟨rfl, rfl⟩) | (go_at_call 53; refine (isGreat_any _ _).mono ?_; rintro e w' ⟨rfl, rfl⟩) | (go_at_call 54; refine (isDigit_any _ _).mono ?_; rintro e w' ⟨rfl, rfl⟩) | (go_at_call 55; refine (isTick_any _ _).mono ?_; rintro e w' ⟨rfl, rfl⟩) | (go_at_call 56; refine (signLength_any _ h0 _).mono ?_; rintro e w' ⟨rfl, rfl⟩))
  all_goals (go_ret; go_light; refine ⟨ret_bool ?_, rfl⟩; rw [HB.out]; clear HB; simp [*])

theorem nameKind_any (s : ByteArray) (w : World) :
    Calls Tryz.prog 52 #[.string s] w fun e w' => e = .returned (.int .i64 (Lx.nameKind s.data.toList)) ∧ w = w' := by
  go_enter Tryz.func52, Tryz.ntmps52
  go_wp2
  all_goals go_ret
  all_goals (go_light; refine ⟨ret_int ?_, rfl⟩; rw [← toL]; simp [Lx.nameKind, Lx.keys]; simp_all)

/-! ### the length of a front whose bytes all have a mark -/
theorem front_step {p : UInt8 → Bool} : ∀ {l : List UInt8} {k : Nat} (h : k < l.length), k ≤ (l.takeWhile p).length → p l[k] = true → k + 1 ≤ (l.takeWhile p).length
  | c :: t, 0, _, _, h => by simp at h; simp [h]
  | c :: t, k + 1, hk, hr, h => by
    rw [List.takeWhile_cons] at hr ⊢
    split at hr
    · rename_i hc
      rw [if_pos hc]
      simp only [List.length_cons] at hr hk ⊢
      have := front_step (p := p) (l := t) (k := k) (by omega) (by omega) (by simpa using h)
      omega
    · simp at hr
theorem front_stop {p : UInt8 → Bool} : ∀ {l : List UInt8} {k : Nat} (h : k < l.length), p l[k] = false → (l.takeWhile p).length ≤ k
  | c :: t, 0, _, h => by simp at h; simp [h]
  | c :: t, k + 1, hk, h => by
    rw [List.takeWhile_cons]
    split
    · simp only [List.length_cons] at hk ⊢
      have := front_stop (p := p) (l := t) (k := k) (by omega) (by simpa using h)
      omega
    · simp
theorem front_le {p : UInt8 → Bool} (l : List UInt8) : (l.takeWhile p).length ≤ l.length := (List.takeWhile_prefix p).length_le
theorem getB (s : ByteArray) (k : Nat) (h : k < s.size) : s.data.toList[k]'(by simpa using h) = s[k] := rfl

theorem run_step {s m : ByteArray} {k : Nat} (h : k < s.size) (hr : k ≤ Lx.runN m.data.toList s.data.toList)
    (hc : Lx.isSmall s[k] = true ∨ Lx.isGreat s[k] = true ∨ Lx.isDigit s[k] = true ∨ (s[k].toNat : Int) = 95 ∨ 0 ≤ indexByte m.data.toList s[k]) : k + 1 ≤ Lx.runN m.data.toList s.data.toList := by
  refine front_step (l := s.data.toList) (by simpa using h) hr ?_
  rw [getB s k h]
  rcases hc with h | h | h | h | h
  · simp [Lx.nameCh, Lx.isLetter, h]
  · simp [Lx.nameCh, Lx.isLetter, h]
  · simp [Lx.nameCh, Lx.isLetter, h]
  · have : s[k].toNat = 95 := by omega
    simp [Lx.nameCh, Lx.isLetter, this]
  · simp only [Lx.nameCh, contains_iff_indexByte, h, decide_true, Bool.or_true]
theorem run_stop {s m : ByteArray} {k : Nat} (h : k < s.size) (hr : k ≤ Lx.runN m.data.toList s.data.toList)
    (h1 : ¬ Lx.isSmall s[k] = true) (h2 : ¬ Lx.isGreat s[k] = true) (h3 : ¬ Lx.isDigit s[k] = true) (h4 : ¬ (s[k].toNat : Int) = 95) (h5 : indexByte m.data.toList s[k] < 0) : (k : Int) = (Lx.runN m.data.toList s.data.toList : Int) := by
  have : Lx.runN m.data.toList s.data.toList ≤ k := by
    refine front_stop (l := s.data.toList) (by simpa using h) ?_
    rw [getB s k h]
    have h5' : ¬ 0 ≤ indexByte m.data.toList s[k] := by omega
    have h4' : ¬ s[k].toNat = 95 := by omega
    simp only [Lx.nameCh, Lx.isLetter, contains_iff_indexByte, h1, h2, h3, h4', h5', decide_false, Bool.or_false]
  omega
theorem run_all {s m : ByteArray} {k : Nat} (h : ¬ k < s.size) (hr : k ≤ Lx.runN m.data.toList s.data.toList) : (k : Int) = (Lx.runN m.data.toList s.data.toList : Int) := by
  have : Lx.runN m.data.toList s.data.toList ≤ s.size := front_le _
  omega
theorem run_any (s m : ByteArray) (hs : s.size ≤ 9223372036854775807) (w : World) :
    Calls Tryz.prog 51 #[.string s, .string m] w fun e w' => e = .returned (.int .i64 (Lx.runN m.data.toList s.data.toList)) ∧ w = w' := by
  go_enter Tryz.func51, Tryz.ntmps51
  go_wp2
  go_loop [5] (fun i => ∃ k : Nat, k ≤ s.size ∧ i = .int .i64 k ∧ k ≤ Lx.runN m.data.toList s.data.toList) (fun i => s.size - (intOf i).toNat)
  case atStart => exact ⟨0, Nat.zero_le _, rfl, Nat.zero_le _⟩
  case round =>
    obtain ⟨k, hk, rfl, hr⟩ := hrel
    go_wp2_with (first | (go_at_call 50; refine (isSmall_any _ _).mono ?_; rintro e w' ⟨rfl, rfl⟩) | (go_at_call 53; refine (isGreat_any _ _).mono ?_; rintro e w' ⟨rfl, rfl⟩) | (go_at_call 54; refine (isDigit_any _ _).mono ?_; rintro e w' ⟨rfl, rfl⟩) | (go_at_call 70; refine (indexByte_any _ _ _).mono ?_; rintro e w' ⟨rfl, rfl⟩))
    · go_round
      case rel => exact ⟨k + 1, by omega, by go_num, run_step ‹_› hr (.inl ‹_›)⟩
      case measure => simp [intOf]; omega
    · go_round
      case rel => exact ⟨k + 1, by omega, by go_num, run_step ‹_› hr (.inr (.inl ‹_›))⟩
      case measure => simp [intOf]; omega
    · go_round
      case rel => exact ⟨k + 1, by omega, by go_num, run_step ‹_› hr (.inr (.inr (.inl ‹_›)))⟩
      case measure => simp [intOf]; omega
    · go_round
      case rel => exact ⟨k + 1, by omega, by go_num, run_step ‹_› hr (.inr (.inr (.inr (.inl ‹_›))))⟩
      case measure => simp [intOf]; omega
    · rename_i h5
      go_round
      case rel => exact ⟨k + 1, by omega, by go_num, run_step ‹_› hr (.inr (.inr (.inr (h5.imp (fun h => by simpa using h) id))))⟩
      case measure => simp [intOf]; omega
    · rename_i h5
      go_ret
      exact ⟨ret_int (run_stop ‹_› hr ‹_› ‹_› ‹_› ‹_› h5.2), rfl⟩
    · go_ret
      exact ⟨ret_int (run_all ‹_› hr), rfl⟩

/-! ### errors -/
theorem err_step : ∀ {l : List UInt8} {k : Nat}, k < l.length → k ≤ Lx.errN l → Lx.begins (l.drop k) = false → k + 1 ≤ Lx.errN l
  | c :: t, 0, _, _, h => by
    rw [List.drop_zero] at h
    simp [Lx.errN, h]
  | c :: t, k + 1, hk, hr, h => by
    rw [Lx.errN] at hr ⊢
    split at hr
    · omega
    · rename_i hc
      rw [if_neg hc]
      simp only [List.length_cons] at hk
      have := err_step (l := t) (k := k) (by omega) (by omega) (by simpa using h)
      omega
theorem err_le : ∀ l : List UInt8, Lx.errN l ≤ l.length
  | [] => Nat.le_refl _
  | c :: t => by
    rw [Lx.errN]
    split
    · omega
    · have := err_le t
      simp only [List.length_cons]; omega
theorem err_stop : ∀ {l : List UInt8} {k : Nat}, k < l.length → Lx.begins (l.drop k) = true → Lx.errN l ≤ k
  | c :: t, 0, _, h => by
    rw [List.drop_zero] at h
    simp [Lx.errN, h]
  | c :: t, k + 1, hk, h => by
    rw [Lx.errN]
    split
    · omega
    · simp only [List.length_cons] at hk
      have := err_stop (l := t) (k := k) (by omega) (by simpa using h)
      omega

/-! ### one token -/
theorem ext_toL (s : ByteArray) (a : Nat) : (s.extract a s.size).data.toList = s.data.toList.drop a := by
  rw [Lib.extract_data, List.take_of_length_le (by rw [List.length_drop, ← sz]; omega)]
theorem ext_cut (s : ByteArray) (a b : Nat) : (s.extract a b).data.toList = (s.data.toList.drop a).take (b - a) := Lib.extract_data s a b
theorem drop_at (s : ByteArray) (a : Nat) (h : a < s.size) : s.data.toList.drop a = s[a] :: s.data.toList.drop (a + 1) := by
  rw [List.drop_eq_getElem_cons (by simpa using h)]; rfl
theorem tokF_eq (s : ByteArray) (a : Nat) (h : a < s.size) : Lx.tokF (s.data.toList.drop a) =
    if Lx.isSmall s[a] || decide (s[a].toNat = 95) then (Lx.nameKind ((s.data.toList.drop a).take (Lx.runN [39] (s.data.toList.drop a))), Lx.runN [39] (s.data.toList.drop a))
    else if Lx.isGreat s[a] then (2, Lx.runN [39] (s.data.toList.drop a))
    else if Lx.isDigit s[a] then (3, Lx.digN (s.data.toList.drop (a + 1)) + 1)
    else if Lx.isTick (s.data.toList.drop a) then (4, Lx.runN [] (s.data.toList.drop (a + 1)) + 1)
    else if 0 < Lx.signN (s.data.toList.drop a) then (6, Lx.signN (s.data.toList.drop a))
    else (7, Lx.errN (s.data.toList.drop (a + 1)) + 1) := by
  rw [drop_at s a h]; rfl
theorem run_at (s : ByteArray) (a : Nat) (h : a ≤ s.size) (hs : s.size ≤ 9223372036854775807) (m : ByteArray) (w : World) : ∃ n, n = Lx.runN m.data.toList (s.data.toList.drop a) ∧ a + n ≤ s.size ∧
    Calls Tryz.prog 51 #[.string (s.extract a s.size), .string m] w fun e w' => e = .returned (.int .i64 n) ∧ w = w' := by
  refine ⟨_, rfl, ?_, ?_⟩
  · have := front_le (p := Lx.nameCh m.data.toList) (s.data.toList.drop a)
    rw [List.length_drop, ← sz] at this
    unfold Lx.runN
    omega
  · have := run_any (s.extract a s.size) m (by simp; omega) w
    rw [ext_toL] at this
    exact this
theorem tick_at (s : ByteArray) (a : Nat) (w : World) : Calls Tryz.prog 55 #[.string (s.extract a s.size)] w fun e w' => e = .returned (.bool (Lx.isTick (s.data.toList.drop a))) ∧ w = w' := by
  have := isTick_any (s.extract a s.size) w
  rw [ext_toL] at this
  exact this
theorem sign_at (s : ByteArray) (a : Nat) (h : a < s.size) (w : World) : Calls Tryz.prog 56 #[.string (s.extract a s.size)] w fun e w' => e = .returned (.int .i64 (Lx.signN (s.data.toList.drop a))) ∧ w = w' := by
  have := signLength_any (s.extract a s.size) (by simp; omega) w
  rw [ext_toL] at this
  exact this
theorem begins_at (s : ByteArray) (a : Nat) (h : a < s.size) (w : World) : Calls Tryz.prog 57 #[.string (s.extract a s.size)] w fun e w' => e = .returned (.bool (Lx.begins (s.data.toList.drop a))) ∧ w = w' := by
  have := begins_any (s.extract a s.size) (by simp; omega) w
  rw [ext_toL] at this
  exact this
theorem sign_le : ∀ l : List UInt8, Lx.signN l ≤ l.length
  | [] => Nat.le_refl _
  | [a] => by rw [Lx.signN]; split <;> simp
  | a :: b :: t => by
    rw [Lx.signN]
    split
    · simp
    · split <;> simp
theorem ret_pair {a b c d : Int} (h : a = c) (h' : b = d) : Ending.returned (.tuple #[.int .i64 a, .int .i64 b]) = .returned (.tuple #[.int .i64 c, .int .i64 d]) := by rw [h, h']
theorem dropB (s : ByteArray) {a k : Nat} (ha : a ≤ k) (h : k < s.size) : (s.data.toList.drop a)[k - a]'(by rw [List.length_drop, ← sz]; omega) = s[k] := by
  rw [List.getElem_drop]
  have : a + (k - a) = k := by omega
  simp only [this]
  rfl
theorem dig_step {s : ByteArray} {a k : Nat} (h : k < s.size) (ha : a + 1 ≤ k) (hr : k - (a + 1) ≤ Lx.digN (s.data.toList.drop (a + 1))) (hd : Lx.isDigit s[k] = true) : k + 1 - (a + 1) ≤ Lx.digN (s.data.toList.drop (a + 1)) := by
  have := front_step (p := Lx.isDigit) (l := s.data.toList.drop (a + 1)) (k := k - (a + 1)) (by rw [List.length_drop, ← sz]; omega) hr (by rw [dropB s ha h]; exact hd)
  unfold Lx.digN
  omega
theorem dig_stop {s : ByteArray} {a k : Nat} (h : k < s.size) (ha : a + 1 ≤ k) (hr : k - (a + 1) ≤ Lx.digN (s.data.toList.drop (a + 1))) (hd : Lx.isDigit s[k] = false) : (k : Int) = ((a + (Lx.digN (s.data.toList.drop (a + 1)) + 1) : Nat) : Int) := by
  have := front_stop (p := Lx.isDigit) (l := s.data.toList.drop (a + 1)) (k := k - (a + 1)) (by rw [List.length_drop, ← sz]; omega) (by rw [dropB s ha h]; exact hd)
  unfold Lx.digN at *
  omega
theorem dig_all {s : ByteArray} {a k : Nat} (h : ¬ k < s.size) (hk : k ≤ s.size) (ha : a + 1 ≤ k) (hr : k - (a + 1) ≤ Lx.digN (s.data.toList.drop (a + 1))) : (k : Int) = ((a + (Lx.digN (s.data.toList.drop (a + 1)) + 1) : Nat) : Int) := by
  have := front_le (p := Lx.isDigit) (s.data.toList.drop (a + 1))
  rw [List.length_drop, ← sz] at this
  unfold Lx.digN at *
  omega
theorem dropK {s : ByteArray} {a k : Nat} (ha : a + 1 ≤ k) : (s.data.toList.drop (a + 1)).drop (k - (a + 1)) = s.data.toList.drop k := by
  rw [List.drop_drop]
  congr 1
  omega
theorem er_step {s : ByteArray} {a k : Nat} (h : k < s.size) (ha : a + 1 ≤ k) (hr : k - (a + 1) ≤ Lx.errN (s.data.toList.drop (a + 1))) (hd : Lx.begins (s.data.toList.drop k) = false) : k + 1 - (a + 1) ≤ Lx.errN (s.data.toList.drop (a + 1)) := by
  have := err_step (l := s.data.toList.drop (a + 1)) (k := k - (a + 1)) (by rw [List.length_drop, ← sz]; omega) hr (by rw [dropK ha]; exact hd)
  omega
theorem er_stop {s : ByteArray} {a k : Nat} (h : k < s.size) (ha : a + 1 ≤ k) (hr : k - (a + 1) ≤ Lx.errN (s.data.toList.drop (a + 1))) (hd : Lx.begins (s.data.toList.drop k) = true) : (k : Int) = ((a + (Lx.errN (s.data.toList.drop (a + 1)) + 1) : Nat) : Int) := by
  have := err_stop (l := s.data.toList.drop (a + 1)) (k := k - (a + 1)) (by rw [List.length_drop, ← sz]; omega) (by rw [dropK ha]; exact hd)
  omega
theorem er_all {s : ByteArray} {a k : Nat} (h : ¬ k < s.size) (hk : k ≤ s.size) (ha : a + 1 ≤ k) (hr : k - (a + 1) ≤ Lx.errN (s.data.toList.drop (a + 1))) : (k : Int) = ((a + (Lx.errN (s.data.toList.drop (a + 1)) + 1) : Nat) : Int) := by
  have := err_le (s.data.toList.drop (a + 1))
  rw [List.length_drop, ← sz] at this
  omega
/-- what token answers. -/
def TokPost (s : ByteArray) (a : Nat) (w : World) (e : Ending) (w' : World) : Prop :=
  e = .returned (.tuple #[.int .i64 ((Lx.tokF (s.data.toList.drop a)).1 : Nat), .int .i64 ((a + (Lx.tokF (s.data.toList.drop a)).2 : Nat) : Int)]) ∧ w = w'
theorem b95 {c : UInt8} (h : c.toNat = 95) : ((c.toNat : Int) == 95) = true := by simp; omega
theorem n95 {c : UInt8} (h : ¬ c.toNat = 95) : ((c.toNat : Int) == 95) = false := by simp; omega
section
variable (s : ByteArray) (a : Nat) (h : a < s.size) (hs : s.size ≤ 9223372036854775807) (w : World)
include h hs
theorem token_name (h1 : Lx.isSmall s[a] = true ∨ s[a].toNat = 95) : Calls Tryz.prog 42 #[.string s, .int .i64 a] w (TokPost s a w) := by
  have HT := Lib.hid (tokF_eq s a h)
  obtain ⟨n1, e1, b1, R1⟩ := run_at s a (by omega) hs { data := #[39] } w
  have e1' : n1 = Lx.runN [39] (s.data.toList.drop a) := e1
  have H1 := Lib.hid R1
  have E1 := Lib.hid e1'
  clear R1 e1 e1'
  rcases h1 with h1 | h1
  · go_enter Tryz.func42, Tryz.ntmps42
    go_wp2_with (first | (go_at_call 50; refine (isSmall_any _ _).mono ?_; rintro e w' ⟨rfl, rfl⟩) | (go_at_call 51; with_reducible (refine H1.out.mono ?_); rintro e w' ⟨rfl, rfl⟩) | (go_at_call 52; refine (nameKind_any _ _).mono ?_; rintro e w' ⟨rfl, rfl⟩))
    go_ret2
    go_light
    exact ⟨ret_pair (by rw [HT.out, h1, E1.out]; simp) (by rw [HT.out, h1, E1.out]; simp), rfl⟩
  · have h2 : Lx.isSmall s[a] = false := by simp [Lx.isSmall, h1]
    have h3 := b95 h1
    have H4 := Lib.hid h1
    clear h1
    go_enter Tryz.func42, Tryz.ntmps42
    go_wp2_with (first | (go_at_call 50; refine (isSmall_any _ _).mono ?_; rintro e w' ⟨rfl, rfl⟩) | (go_at_call 51; with_reducible (refine H1.out.mono ?_); rintro e w' ⟨rfl, rfl⟩) | (go_at_call 52; refine (nameKind_any _ _).mono ?_; rintro e w' ⟨rfl, rfl⟩))
    go_ret2
    go_light
    exact ⟨ret_pair (by rw [HT.out, H4.out, E1.out]; simp) (by rw [HT.out, H4.out, E1.out]; simp), rfl⟩
variable (h1 : Lx.isSmall s[a] = false) (h2 : ¬ s[a].toNat = 95)
include h1 h2
theorem token_great (h3 : Lx.isGreat s[a] = true) : Calls Tryz.prog 42 #[.string s, .int .i64 a] w (TokPost s a w) := by
  have HT := Lib.hid (tokF_eq s a h)
  obtain ⟨n1, e1, b1, R1⟩ := run_at s a (by omega) hs { data := #[39] } w
  have e1' : n1 = Lx.runN [39] (s.data.toList.drop a) := e1
  have H1 := Lib.hid R1
  have E1 := Lib.hid e1'
  clear R1 e1 e1'
  have h2' := n95 h2
  go_enter Tryz.func42, Tryz.ntmps42
  go_wp2_with (first | (go_at_call 50; refine (isSmall_any _ _).mono ?_; rintro e w' ⟨rfl, rfl⟩) | (go_at_call 53; refine (isGreat_any _ _).mono ?_; rintro e w' ⟨rfl, rfl⟩) | (go_at_call 51; with_reducible (refine H1.out.mono ?_); rintro e w' ⟨rfl, rfl⟩))
  go_ret2
  go_light
  exact ⟨ret_pair (by rw [HT.out]; simp [h1, h2, h3]) (by rw [HT.out, E1.out]; simp [h1, h2, h3]), rfl⟩
variable (h3 : Lx.isGreat s[a] = false)
include h3
theorem token_digit (h4 : Lx.isDigit s[a] = true) : Calls Tryz.prog 42 #[.string s, .int .i64 a] w (TokPost s a w) := by
  have HT := Lib.hid (tokF_eq s a h)
  have h2' := n95 h2
  go_enter Tryz.func42, Tryz.ntmps42
  go_wp2_with (first | (go_at_call 50; refine (isSmall_any _ _).mono ?_; rintro e w' ⟨rfl, rfl⟩) | (go_at_call 53; refine (isGreat_any _ _).mono ?_; rintro e w' ⟨rfl, rfl⟩) | (go_at_call 54; refine (isDigit_any _ _).mono ?_; rintro e w' ⟨rfl, rfl⟩))
  go_loop [8] (fun i => ∃ k : Nat, a + 1 ≤ k ∧ k ≤ s.size ∧ i = .int .i64 k ∧ k - (a + 1) ≤ Lx.digN (s.data.toList.drop (a + 1))) (fun i => s.size - (intOf i).toNat)
  case atStart => exact ⟨a + 1, by omega, by omega, by go_num, by omega⟩
  case round =>
    obtain ⟨k, ha, hk, rfl, hr⟩ := hrel
    go_wp2_with (go_at_call 54; refine (isDigit_any _ _).mono ?_; rintro e w' ⟨rfl, rfl⟩)
    · go_round
      case rel => exact ⟨k + 1, by omega, by omega, by go_num, dig_step ‹_› ha hr ‹_›⟩
      case measure => simp [intOf]; omega
    · go_ret2
      go_light
      have h5 : Lx.isDigit s[k] = false := by assumption
      exact ⟨ret_pair (by rw [HT.out]; simp [h1, h2, h3, h4]) (by rw [HT.out, if_neg (by simp [h1, h2]), if_neg (by simp [h3]), if_pos h4]; exact dig_stop ‹_› ha hr h5), rfl⟩
    · go_ret2
      go_light
      exact ⟨ret_pair (by rw [HT.out]; simp [h1, h2, h3, h4]) (by rw [HT.out, if_neg (by simp [h1, h2]), if_neg (by simp [h3]), if_pos h4]; exact dig_all ‹_› hk ha hr), rfl⟩
variable (h4 : Lx.isDigit s[a] = false)
include h4
theorem token_tick (h5 : Lx.isTick (s.data.toList.drop a) = true) : Calls Tryz.prog 42 #[.string s, .int .i64 a] w (TokPost s a w) := by
  have HT := Lib.hid (tokF_eq s a h)
  obtain ⟨n2, e2, b2, R2⟩ := run_at s (a + 1) (by omega) hs { data := #[] } w
  have e2' : n2 = Lx.runN [] (s.data.toList.drop (a + 1)) := e2
  have H2 := Lib.hid R2
  have E2 := Lib.hid e2'
  clear R2 e2 e2'
  have h2' := n95 h2
  go_enter Tryz.func42, Tryz.ntmps42
  go_wp2_with (first | (go_at_call 50; refine (isSmall_any _ _).mono ?_; rintro e w' ⟨rfl, rfl⟩) | (go_at_call 53; refine (isGreat_any _ _).mono ?_; rintro e w' ⟨rfl, rfl⟩) | (go_at_call 54; refine (isDigit_any _ _).mono ?_; rintro e w' ⟨rfl, rfl⟩) | (go_at_call 55; refine (tick_at _ _ _).mono ?_; rintro e w' ⟨rfl, rfl⟩) | (go_at_call 51; with_reducible (refine H2.out.mono ?_); rintro e w' ⟨rfl, rfl⟩))
  go_ret2
  go_light
  exact ⟨ret_pair (by rw [HT.out]; simp [h1, h2, h3, h4, h5]) (by rw [HT.out, E2.out]; simp [h1, h2, h3, h4, h5]; omega), rfl⟩
variable (h5 : Lx.isTick (s.data.toList.drop a) = false)
include h5
theorem token_sign (h6 : 0 < Lx.signN (s.data.toList.drop a)) : Calls Tryz.prog 42 #[.string s, .int .i64 a] w (TokPost s a w) := by
  have HT := Lib.hid (tokF_eq s a h)
  have h2' := n95 h2
  have hsl := sign_le (s.data.toList.drop a)
  rw [List.length_drop, ← sz] at hsl
  go_enter Tryz.func42, Tryz.ntmps42
  go_wp2_with (first | (go_at_call 50; refine (isSmall_any _ _).mono ?_; rintro e w' ⟨rfl, rfl⟩) | (go_at_call 53; refine (isGreat_any _ _).mono ?_; rintro e w' ⟨rfl, rfl⟩) | (go_at_call 54; refine (isDigit_any _ _).mono ?_; rintro e w' ⟨rfl, rfl⟩) | (go_at_call 55; refine (tick_at _ _ _).mono ?_; rintro e w' ⟨rfl, rfl⟩) | (go_at_call 56; refine (sign_at _ _ h _).mono ?_; rintro e w' ⟨rfl, rfl⟩))
  go_ret2
  go_light
  exact ⟨ret_pair (by rw [HT.out]; simp [h1, h2, h3, h4, h5, h6]) (by rw [HT.out]; simp [h1, h2, h3, h4, h5, h6]), rfl⟩
theorem token_err (h6 : Lx.signN (s.data.toList.drop a) = 0) : Calls Tryz.prog 42 #[.string s, .int .i64 a] w (TokPost s a w) := by
  have HT := Lib.hid (tokF_eq s a h)
  have h2' := n95 h2
  go_enter Tryz.func42, Tryz.ntmps42
  go_wp2_with (first | (go_at_call 50; refine (isSmall_any _ _).mono ?_; rintro e w' ⟨rfl, rfl⟩) | (go_at_call 53; refine (isGreat_any _ _).mono ?_; rintro e w' ⟨rfl, rfl⟩) | (go_at_call 54; refine (isDigit_any _ _).mono ?_; rintro e w' ⟨rfl, rfl⟩) | (go_at_call 55; refine (tick_at _ _ _).mono ?_; rintro e w' ⟨rfl, rfl⟩) | (go_at_call 56; refine (sign_at _ _ h _).mono ?_; rintro e w' ⟨rfl, rfl⟩))
  go_loop [10] (fun i => ∃ k : Nat, a + 1 ≤ k ∧ k ≤ s.size ∧ i = .int .i64 k ∧ k - (a + 1) ≤ Lx.errN (s.data.toList.drop (a + 1))) (fun i => s.size - (intOf i).toNat)
  case atStart => exact ⟨a + 1, by omega, by omega, by go_num, by omega⟩
  case round =>
    obtain ⟨k, ha, hk, rfl, hr⟩ := hrel
    go_wp2_with (go_at_call 57; refine (begins_at _ _ (by assumption) _).mono ?_; rintro e w' ⟨rfl, rfl⟩)
    · have h7 : (!Lx.begins (s.data.toList.drop k)) = true := by assumption
      go_round
      case rel => exact ⟨k + 1, by omega, by omega, by go_num, er_step ‹_› ha hr (by simpa using h7)⟩
      case measure => simp [intOf]; omega
    · go_ret2
      go_light
      have h7 : (!Lx.begins (s.data.toList.drop k)) = false := by assumption
      exact ⟨ret_pair (by rw [HT.out]; simp [h1, h2, h3, h4, h5, h6]) (by rw [HT.out, if_neg (by simp [h1, h2]), if_neg (by simp [h3]), if_neg (by simp [h4]), if_neg (by simp [h5]), if_neg (by omega)]; exact er_stop ‹_› ha hr (by simpa using h7)), rfl⟩
    · go_ret2
      go_light
      exact ⟨ret_pair (by rw [HT.out]; simp [h1, h2, h3, h4, h5, h6]) (by rw [HT.out, if_neg (by simp [h1, h2]), if_neg (by simp [h3]), if_neg (by simp [h4]), if_neg (by simp [h5]), if_neg (by omega)]; exact er_all ‹_› hk ha hr), rfl⟩
end
theorem token_any (s : ByteArray) (a : Nat) (h : a < s.size) (hs : s.size ≤ 9223372036854775807) (w : World) : Calls Tryz.prog 42 #[.string s, .int .i64 a] w (TokPost s a w) := by
  by_cases h1 : Lx.isSmall s[a] = true ∨ s[a].toNat = 95
  · exact token_name s a h hs w h1
  have g1 : Lx.isSmall s[a] = false := by simpa using fun x => h1 (.inl x)
  have g2 : ¬ s[a].toNat = 95 := fun x => h1 (.inr x)
  cases h3 : Lx.isGreat s[a]
  · cases h4 : Lx.isDigit s[a]
    · cases h5 : Lx.isTick (s.data.toList.drop a)
      · rcases Nat.eq_zero_or_pos (Lx.signN (s.data.toList.drop a)) with h6 | h6
        · exact token_err s a h hs w g1 g2 h3 h4 h5 h6
        · exact token_sign s a h hs w g1 g2 h3 h4 h5 h6
      · exact token_tick s a h hs w g1 g2 h3 h4 h5
    · exact token_digit s a h hs w g1 g2 h3 h4
  · exact token_great s a h hs w g1 g2 h3
end Go.Proofs.YtmpmibebkflaiaaGreatDoor
namespace Go.Proofs.YtmpmibebkflaiaaGreatDoor
open Go.RowKit Go.Lib
set_option maxRecDepth 100000

theorem pair_of (s : ByteArray) (k : Nat) (h : k + 1 < s.size) : s.data.toList.drop k = s[k] :: s[k + 1] :: s.data.toList.drop (k + 2) ∧ (s.extract k (k + 2)).toList = [s[k], s[k + 1]] := by
  have e := drop_at s k (by omega)
  rw [drop_at s (k + 1) h] at e
  refine ⟨e, ?_⟩
  rw [cut_toL, e]
  simp
/-- what remarkEnd answers of a list whose first byte is byte k, so many remarks being open. -/
def remAns (l : List UInt8) (k d : Nat) : Nat := ((Lx.remN d (l.drop k)).map (k + ·)).getD 0
theorem rem_open (s : ByteArray) (k d : Nat) (h : k + 1 < s.size) (e : (s.extract k (k + 2)).toList = [40, 42]) : remAns s.data.toList k d = remAns s.data.toList (k + 2) (d + 1) := by
  obtain ⟨e1, e2⟩ := pair_of s k h
  rw [e2] at e
  simp only [List.cons.injEq, and_true] at e
  unfold remAns
  rw [e1, e.1, e.2]
  simp only [Lx.remN]
  rw [if_pos (by decide)]
  cases Lx.remN (d + 1) (s.data.toList.drop (k + 2)) <;> simp
  omega
theorem rem_close (s : ByteArray) (k d : Nat) (h : k + 1 < s.size) (e : (s.extract k (k + 2)).toList = [42, 41]) (_hd : d ≠ 0) : remAns s.data.toList k d = if d = 1 then k + 2 else remAns s.data.toList (k + 2) (d - 1) := by
  obtain ⟨e1, e2⟩ := pair_of s k h
  rw [e2] at e
  simp only [List.cons.injEq, and_true] at e
  unfold remAns
  rw [e1, e.1, e.2]
  simp only [Lx.remN]
  rw [if_neg (by decide), if_pos (by decide)]
  split
  · simp
  · cases Lx.remN (d - 1) (s.data.toList.drop (k + 2)) <;> simp
    omega
theorem rem_on (s : ByteArray) (k d : Nat) (h : k + 1 < s.size) (n1 : ¬ (s.extract k (k + 2)).toList = [40, 42]) (n2 : ¬ (s.extract k (k + 2)).toList = [42, 41]) : remAns s.data.toList k d = remAns s.data.toList (k + 1) d := by
  obtain ⟨e1, e2⟩ := pair_of s k h
  rw [e2] at n1 n2
  simp only [List.cons.injEq, and_true] at n1 n2
  unfold remAns
  rw [e1, drop_at s (k + 1) h]
  simp only [Lx.remN]
  rw [if_neg (fun x => n1 ⟨UInt8.toNat_inj.1 x.1, UInt8.toNat_inj.1 x.2⟩), if_neg (fun x => n2 ⟨UInt8.toNat_inj.1 x.1, UInt8.toNat_inj.1 x.2⟩)]
  cases Lx.remN d (s[k + 1] :: s.data.toList.drop (k + 2)) <;> simp
  omega
theorem rem_end (s : ByteArray) (k d : Nat) (h : ¬ k + 1 < s.size) : remAns s.data.toList k d = 0 := by
  unfold remAns
  have hl : (s.data.toList.drop k).length ≤ 1 := by rw [List.length_drop, ← sz]; omega
  rcases e : s.data.toList.drop k with _ | ⟨x, _ | ⟨y, t⟩⟩
  · rfl
  · rfl
  · rw [e] at hl; simp at hl
theorem opens_pair (s : ByteArray) (k : Nat) (h : k + 1 < s.size) (ho : Lx.opens (s.data.toList.drop k) = true) : (s.extract k (k + 2)).toList = [40, 42] := by
  obtain ⟨e1, e2⟩ := pair_of s k h
  rw [e1] at ho
  simp only [Lx.opens, decide_eq_true_eq] at ho
  rw [e2, UInt8.toNat_inj.1 (show s[k].toNat = (40 : UInt8).toNat from ho.1), UInt8.toNat_inj.1 (show s[k + 1].toNat = (42 : UInt8).toNat from ho.2)]
theorem remEnd_any (s : ByteArray) (a : Nat) (h : Lx.opens (s.data.toList.drop a) = true) (ha : a ≤ s.size) (hs : s.size ≤ 9223372036854775800) (w : World) :
    Calls Tryz.prog 41 #[.string s, .int .i64 a] w fun e w' => e = .returned (.int .i64 (remAns s.data.toList a 0)) ∧ w = w' := by
  go_enter Tryz.func41, Tryz.ntmps41
  go_wp2
  go_loop [1, 5] (fun i j => ∃ k d : Nat, a ≤ k ∧ k ≤ s.size ∧ i = .int .i64 k ∧ j = .int .i64 d ∧ d ≤ k ∧ (d = 0 → Lx.opens (s.data.toList.drop k) = true) ∧ remAns s.data.toList k d = remAns s.data.toList a 0) (fun i _ => s.size - (intOf i).toNat)
  case atStart => exact ⟨a, 0, by omega, by omega, rfl, rfl, by omega, fun _ => h, rfl⟩
  case round =>
    obtain ⟨k, d, hak, hk, rfl, rfl, hd, ho, hr⟩ := hrel
    have HO := Lib.hid ho
    have HR := Lib.hid hr
    clear ho hr
    go_wp2
    · have h1 : (k : Int) + 1 < s.size := by assumption
      have h2 : ((s.extract k (k + 2)).toList == [40, 42]) = true := by assumption
      go_round
      case rel => exact ⟨k + 2, d + 1, by omega, by omega, by go_num, by go_num, by omega, fun h => absurd h (by omega), (rem_open s k d (by omega) (by simpa using h2)).symm.trans HR.out⟩
      case measure => simp [intOf]; omega
    · have h1 : (k : Int) + 1 < s.size := by assumption
      have h3 : ((s.extract k (k + 2)).toList == [42, 41]) = true := by assumption
      have h4 : ((d : Int) - 1 == 0) = true := by assumption
      go_ret
      go_light
      have hd1 : d = 1 := by simp at h4; omega
      have := rem_close s k d (by omega) (by simpa using h3) (by omega)
      rw [if_pos hd1] at this
      exact ⟨ret_int (by rw [← HR.out, this]; simp), rfl⟩
    · have h1 : (k : Int) + 1 < s.size := by assumption
      have h2 : ((s.extract k (k + 2)).toList == [40, 42]) = false := by assumption
      have h3 : ((s.extract k (k + 2)).toList == [42, 41]) = true := by assumption
      have h4 : ((d : Int) - 1 == 0) = false := by assumption
      have hd0 : d ≠ 0 := fun x => by rw [opens_pair s k (by omega) (HO.out x)] at h2; simp at h2
      have hd1 : ¬ d = 1 := by simp at h4; omega
      have hc := rem_close s k d (by omega) (by simpa using h3) hd0
      rw [if_neg hd1] at hc
      have HC := Lib.hid hc
      clear hc
      go_round
      case rel => exact ⟨k + 2, d - 1, by omega, by omega, by go_num, by rw [Int.ofNat_sub (by omega)]; rfl, by omega, fun h => absurd h (by omega), HC.out.symm.trans HR.out⟩
      case measure => simp [intOf]; omega
    · have h1 : (k : Int) + 1 < s.size := by assumption
      have h2 : ((s.extract k (k + 2)).toList == [40, 42]) = false := by assumption
      have h4 : ((d : Int) == 0) = true := by assumption
      have hd0 : d = 0 := by simp at h4; omega
      rw [opens_pair s k (by omega) (HO.out hd0)] at h2
      simp at h2
    · have h1 : (k : Int) + 1 < s.size := by assumption
      have h2 : ((s.extract k (k + 2)).toList == [40, 42]) = false := by assumption
      have h3 : ((s.extract k (k + 2)).toList == [42, 41]) = false := by assumption
      have h4 : ((d : Int) == 0) = false := by assumption
      have HC := Lib.hid (rem_on s k d (by omega) (by simpa using h2) (by simpa using h3))
      have hd0 : d ≠ 0 := by simp at h4; omega
      go_round
      case rel => exact ⟨k + 1, d, by omega, by omega, by go_num, rfl, by omega, fun h => absurd h hd0, HC.out.symm.trans HR.out⟩
      case measure => simp [intOf]; omega
    · have h1 : (s.size : Int) ≤ k + 1 := by assumption
      go_ret
      go_light
      exact ⟨ret_int (by rw [← HR.out, rem_end s k d (by omega)]; rfl), rfl⟩
end Go.Proofs.YtmpmibebkflaiaaGreatDoor
namespace Go.Proofs.YtmpmibebkflaiaaGreatDoor
namespace Lx

theorem tw_le {p : UInt8 → Bool} (l : List UInt8) : (l.takeWhile p).length ≤ l.length := (List.takeWhile_prefix p).length_le
theorem runN_pos {m : List UInt8} {c : UInt8} {t : List UInt8} (h : nameCh m c = true) : 1 ≤ runN m (c :: t) := by
  simp [runN, h]
theorem errN_le : ∀ l : List UInt8, errN l ≤ l.length
  | [] => Nat.le_refl _
  | c :: t => by
    rw [errN]
    split
    · omega
    · have := errN_le t
      simp only [List.length_cons]; omega
theorem signN_le : ∀ l : List UInt8, signN l ≤ l.length
  | [] => Nat.le_refl _
  | [a] => by rw [signN]; split <;> simp
  | a :: b :: t => by
    rw [signN]
    split
    · simp
    · split <;> simp
theorem isTick_len : ∀ {l : List UInt8}, isTick l = true → 2 ≤ l.length
  | [], h => by simp [isTick] at h
  | [_], h => by simp [isTick] at h
  | _ :: _ :: _, _ => by simp
theorem tok_bounds (c : UInt8) (t : List UInt8) : 1 ≤ (tokF (c :: t)).2 ∧ (tokF (c :: t)).2 ≤ (c :: t).length := by
  have hr := tw_le (p := nameCh [39]) (c :: t)
  simp only [tokF]
  split
  · rename_i h
    refine ⟨runN_pos ?_, hr⟩
    simp only [nameCh, isLetter]
    simp only [Bool.or_eq_true, decide_eq_true_eq] at h ⊢
    rcases h with h | h
    · exact .inl (.inl (.inl (.inl h)))
    · exact .inl (.inr h)
  · split
    · rename_i h
      refine ⟨runN_pos ?_, hr⟩
      simp only [nameCh, isLetter, h, Bool.or_true, Bool.true_or]
    · split
      · have := tw_le (p := isDigit) t
        simp only [digN, List.length_cons]
        omega
      · split
        · have := tw_le (p := nameCh []) t
          simp only [runN, List.length_cons]
          omega
        · split
          · rename_i h
            exact ⟨h, signN_le _⟩
          · have := errN_le t
            simp only [List.length_cons]
            omega
theorem rem_bounds : ∀ (n d : Nat) (l : List UInt8), l.length ≤ n → ∀ m, remN d l = some m → 2 ≤ m ∧ m ≤ l.length
  | 0, d, l, hl, m, h => by
    have : l = [] := List.eq_nil_of_length_eq_zero (by omega)
    subst this
    simp [remN] at h
  | n + 1, d, [], _, m, h => by simp [remN] at h
  | n + 1, d, [_], _, m, h => by simp [remN] at h
  | n + 1, d, a :: b :: t, hl, m, h => by
    simp only [List.length_cons] at hl ⊢
    rw [remN] at h
    split at h
    · simp only [Option.map_eq_some_iff] at h
      obtain ⟨x, hx, rfl⟩ := h
      have := rem_bounds n _ t (by omega) x hx
      omega
    · split at h
      · split at h
        · simp at h; omega
        · simp only [Option.map_eq_some_iff] at h
          obtain ⟨x, hx, rfl⟩ := h
          have := rem_bounds n _ t (by omega) x hx
          omega
      · simp only [Option.map_eq_some_iff] at h
        obtain ⟨x, hx, rfl⟩ := h
        have := rem_bounds n _ (b :: t) (by simp; omega) x hx
        simp only [List.length_cons] at this
        omega
theorem lexN_fuel : ∀ (n f g p : Nat) (l : List UInt8), l.length ≤ n → l.length < f → l.length < g → lexN f p l = lexN g p l
  | _, 0, _, _, _, _, h, _ => by omega
  | _, _ + 1, 0, _, _, _, _, h => by omega
  | _, _ + 1, _ + 1, _, [], _, _, _ => rfl
  | 0, _ + 1, _ + 1, _, _ :: _, h, _, _ => by simp at h
  | n + 1, f + 1, g + 1, p, c :: t, hn, hf, hg => by
    have hb := tok_bounds c t
    simp only [List.length_cons] at hn hf hg hb
    rw [lexN, lexN]
    split
    · exact lexN_fuel n f g _ t (by omega) (by omega) (by omega)
    · split
      · cases hr : remN 0 (c :: t) with
        | none => rfl
        | some m =>
          have := rem_bounds _ _ _ (Nat.le_refl _) m hr
          simp only [List.length_cons] at this
          exact lexN_fuel n f g _ _ (by simp; omega) (by simp; omega) (by simp; omega)
      · congr 1
        exact lexN_fuel n f g _ _ (by simp; omega) (by simp; omega) (by simp; omega)

/-- the tokens from byte k on. -/
def lexAt (l : List UInt8) (k : Nat) : List Tok := lexN ((l.drop k).length + 1) k (l.drop k)
theorem lexF_at (l : List UInt8) : lexF l = lexAt l 0 := rfl
theorem lexN_at (l : List UInt8) (f k : Nat) (h : (l.drop k).length < f) : lexN f k (l.drop k) = lexAt l k :=
  lexN_fuel _ _ _ _ _ (Nat.le_refl _) h (Nat.lt_succ_self _)
theorem at_end (l : List UInt8) (k : Nat) (h : l.length ≤ k) : lexAt l k = [] := by
  unfold lexAt
  rw [List.drop_of_length_le h]; rfl
section
variable (l : List UInt8) (k : Nat) (h : k < l.length)
theorem drop_cons : l.drop k = l[k] :: l.drop (k + 1) := List.drop_eq_getElem_cons h
theorem at_white (hw : isWhite l[k] = true) : lexAt l k = lexAt l (k + 1) := by
  have e := drop_cons l k h
  conv => lhs; unfold lexAt
  rw [e, lexN, if_pos hw]
  refine lexN_at l _ _ ?_
  simp
  omega
theorem at_none (hw : isWhite l[k] = false) (ho : opens (l.drop k) = true) (hr : remN 0 (l.drop k) = none) : lexAt l k = [⟨7, k, l.length⟩] := by
  have e := drop_cons l k h
  conv => lhs; unfold lexAt
  rw [e] at ho hr ⊢
  rw [lexN, if_neg (by simp [hw]), if_pos ho, hr]
  simp
  omega
theorem at_some (hw : isWhite l[k] = false) (ho : opens (l.drop k) = true) (n : Nat) (hr : remN 0 (l.drop k) = some n) : lexAt l k = lexAt l (k + n) := by
  have e := drop_cons l k h
  have hb := rem_bounds _ _ _ (Nat.le_refl _) n hr
  have hl := congrArg List.length e
  conv => lhs; unfold lexAt
  rw [e] at ho hr ⊢
  rw [lexN, if_neg (by simp [hw]), if_pos ho, hr]
  show lexN _ (k + n) (List.drop n (l[k] :: l.drop (k + 1))) = _
  rw [← e, List.drop_drop]
  refine lexN_at l _ _ ?_
  simp at hb ⊢
  omega
theorem at_tok (hw : isWhite l[k] = false) (ho : opens (l.drop k) = false) : lexAt l k = ⟨(tokF (l.drop k)).1, k, k + (tokF (l.drop k)).2⟩ :: lexAt l (k + (tokF (l.drop k)).2) := by
  have e := drop_cons l k h
  have hb := tok_bounds l[k] (l.drop (k + 1))
  conv => lhs; unfold lexAt
  rw [e] at ho ⊢
  rw [lexN, if_neg (by simp [hw]), if_neg (by rw [ho]; decide)]
  congr 1
  rw [← e, List.drop_drop]
  rw [← e] at hb
  refine lexN_at l _ _ ?_
  simp at hb ⊢
  omega
end
end Lx
end Go.Proofs.YtmpmibebkflaiaaGreatDoor
namespace Go.Proofs.YtmpmibebkflaiaaGreatDoor
open Go.RowKit Go.Lib
set_option maxRecDepth 100000

/-- a token's cells. -/
def tokCells (t : Lx.Tok) : List Value := [.int .i64 (t.kind : Int), .int .i64 (t.a : Int), .int .i64 (t.b : Int)]
def toksCells (ts : List Lx.Tok) : List Value := ts.flatMap tokCells
theorem toksCells_len (ts : List Lx.Tok) : (toksCells ts).length = ts.length * 3 := by
  induction ts with
  | nil => rfl
  | cons t ts ih =>
    simp only [toksCells, List.flatMap_cons, List.length_append, List.length_cons] at ih ⊢
    rw [ih]
    simp [tokCells]
    omega
theorem Tryz.infoTok : (Tryz.prog.info? 68).map (fun i => (i.zero, i.size, i.bytes)) = some (some (.agg #[.int .i64 0, .int .i64 0, .int .i64 0]), 3, 24) := by kernel_rfl

theorem preB_two (l : List UInt8) : Lx.preB [40, 42] l = Lx.opens l := by
  unfold Lx.preB
  match l with
  | [] => rfl
  | [a] => simp [Lx.opens, List.isPrefixOf]
  | a :: b :: t =>
    simp only [List.isPrefixOf, Bool.and_true, Lx.opens]
    rw [Bool.eq_iff_iff]
    simp only [Bool.and_eq_true, beq_iff_eq, decide_eq_true_eq]
    constructor
    · rintro ⟨rfl, rfl⟩; exact ⟨rfl, rfl⟩
    · rintro ⟨h1, h2⟩
      exact ⟨(UInt8.toNat_inj.1 (show a.toNat = (40 : UInt8).toNat from h1)).symm, (UInt8.toNat_inj.1 (show b.toNat = (42 : UInt8).toNat from h2)).symm⟩
theorem opens_at (s : ByteArray) (k : Nat) (w : World) : Calls Tryz.prog 40 #[.string (s.extract k s.size), .string { data := #[40, 42] }] w fun e w' => e = .returned (.bool (Lx.opens (s.data.toList.drop k))) ∧ w = w' := by
  have := hasPrefix_any (s.extract k s.size) { data := #[40, 42] } w
  rw [ext_toL] at this
  have e : Lx.preB (({ data := #[40, 42] } : ByteArray).data.toList) (s.data.toList.drop k) = Lx.opens (s.data.toList.drop k) := preB_two _
  rw [e] at this
  exact this

/-- what the loop of Lex keeps. -/
def LexRel (s : ByteArray) (w : World) (acc : List Lx.Tok) (k : Nat) (v : Value) (wr : World) : Prop :=
  wr.ownsRow w.heap.size 68 3 v acc.length (toksCells acc) ∧ Below w.heap.size w wr ∧ acc.length ≤ k ∧ acc ++ Lx.lexAt s.data.toList k = Lx.lexF s.data.toList
/-- what Lex answers. -/
def LexPost (s : ByteArray) (w : World) (e : Ending) (w' : World) : Prop :=
  ∃ v, e = .returned v ∧ w'.ownsRow w.heap.size 68 3 v (Lx.lexF s.data.toList).length (toksCells (Lx.lexF s.data.toList)) ∧ Below w.heap.size w w'
theorem rel_move {s : ByteArray} {w wr : World} {acc : List Lx.Tok} {k k' : Nat} {v : Value} (h : LexRel s w acc k v wr) (hk : k ≤ k') (e : Lx.lexAt s.data.toList k = Lx.lexAt s.data.toList k') : LexRel s w acc k' v wr :=
  ⟨h.1, h.2.1, by have := h.2.2.1; omega, by rw [← e]; exact h.2.2.2⟩
theorem toks_snoc (acc : List Lx.Tok) (t : Lx.Tok) : toksCells acc ++ tokCells t = toksCells (acc ++ [t]) := by
  simp [toksCells]
theorem tok_news {W : World} (t : TypeId) (a b c : Int) : ∀ (j : Nat) (u : Value), ([.int .i64 a, .int .i64 b, .int .i64 c] : List Value)[j]? = some u → (W.alloc (.cells #[.int .i64 a, .int .i64 b, .int .i64 c] t)).cell? ((⟨W.heap.size, 0, none⟩ : Addr).add j) = some u := by
  intro j u hj
  match j, hj with
  | 0, hj => simp at hj; subst hj; simp [Addr.add, go_sem]
  | 1, hj => simp at hj; subst hj; simp [Addr.add, go_sem]
  | 2, hj => simp at hj; subst hj; simp [Addr.add, go_sem]
theorem tok_plain (a b c : Int) : ∀ u ∈ ([.int .i64 a, .int .i64 b, .int .i64 c] : List Value), u.oneCell' = true := by
  intro u hu
  simp only [List.mem_cons, List.mem_nil_iff, or_false] at hu
  rcases hu with rfl | rfl | rfl <;> rfl

set_option maxHeartbeats 1000000 in
theorem lex_any (s : ByteArray) (hs : s.size ≤ 1099511627776) (w : World) : Calls Tryz.prog 27 #[.string s] w (LexPost s w) := by
  obtain ⟨i0, hi, hz0, hz1, hz2⟩ := info_parts Tryz.infoTok
  go_enter Tryz.func27, Tryz.ntmps27
  go_wp2
  go_step3
  go_wp2
  go_step3
  go_wp2
  go_loopw [3, 4] (fun v i wr => ∃ (k : Nat) (acc : List Lx.Tok), k ≤ s.size ∧ i = .int .i64 k ∧ LexRel s w acc k v wr) (fun _ i _ => s.size - (intOf i).toNat)
  case atStart => exact ⟨0, [], by omega, rfl, World.ownsRow_nil _ _ _ _, Below.refl _ _, by simp, rfl⟩
  case round =>
    obtain ⟨k, acc, hk, rfl, hrel⟩ := hrel
    have HR := Lib.hid hrel
    clear hrel
    have hal : acc.length ≤ k := HR.out.2.2.1
    have hsz : w.heap.size ≤ wr.heap.size := HR.out.2.1.size
    by_cases hlt : k < s.size
    · cases hw : Lx.isWhite s[k]
      · cases ho : Lx.opens (s.data.toList.drop k)
        · obtain ⟨kd, n, e1⟩ : ∃ kd n, Lx.tokF (s.data.toList.drop k) = (kd, n) := ⟨_, _, rfl⟩
          have hb := Lx.tok_bounds s[k] (s.data.toList.drop (k + 1))
          rw [← drop_at s k hlt, e1, List.length_drop, ← sz] at hb
          obtain ⟨hb1, hb2⟩ := hb
          have ha := Lx.at_tok s.data.toList k (by simpa using hlt) hw ho
          rw [e1] at ha
          have HA := Lib.hid ha
          have ht := token_any s k hlt (by omega) wr
          unfold TokPost at ht
          rw [e1] at ht
          have HT := Lib.hid ht
          have E1 := Lib.hid e1
          clear e1 ht ha
          go_wp2_with (first | (go_at_call 39; refine (isWhite_any _ _).mono ?_; rintro e w' ⟨rfl, rfl⟩) | (go_at_call 40; refine (opens_at s k _).mono ?_; rintro e w' ⟨rfl, rfl⟩) | (go_at_call 42; with_reducible (refine HT.out.mono ?_); rintro e w' ⟨rfl, rfl⟩) | (at_builtin; refine wpList_append_own _ rfl _ _ 51 rfl w.heap.size 68 i0 _ 3 24 Tryz.underlying51 hi hz0 hz1 hz2 rfl (by decide) _ _ _ rfl (HR.out.1.alloc _) ⟨wr.heap.size, 0, none⟩ 1 1 [.int .i64 (kd : Int), .int .i64 (k : Int), .int .i64 ((k : Int) + n)] rfl rfl (tok_news _ _ _ _) (tok_plain _ _ _) (by unfold maxLen; omega) (by omega) (by simp; omega) ?_; intro v' w1 hown' hgrow _))
          go_roundw
          case rel =>
            refine ⟨k + n, acc ++ [⟨kd, k, k + n⟩], by omega, by go_num, ?_, ?_, ?_, ?_⟩
            · rw [← toks_snoc, List.length_append]
              exact hown'
            · exact (HR.out.2.1.alloc (by omega) _).grown hgrow (by simp; omega) (fun g e => (HR.out.1.lt g e).1)
            · rw [List.length_append]; simp; omega
            · rw [List.append_assoc, List.singleton_append, ← HA.out]; exact HR.out.2.2.2
          case measure => simp [intOf]; omega
        · cases hr : Lx.remN 0 (s.data.toList.drop k) with
          | none =>
            have ha := Lx.at_none s.data.toList k (by simpa using hlt) hw ho hr
            have ht := remEnd_any s k ho hk (by omega) wr
            unfold remAns at ht
            rw [hr] at ht
            have HT := Lib.hid ht
            have HA := Lib.hid ha
            have H1 := Lib.hid hr
            clear ht ha hr
            go_wp2_with (first | (go_at_call 39; refine (isWhite_any _ _).mono ?_; rintro e w' ⟨rfl, rfl⟩) | (go_at_call 40; refine (opens_at s k _).mono ?_; rintro e w' ⟨rfl, rfl⟩) | (go_at_call 41; refine HT.out.mono ?_; rintro e w' ⟨rfl, rfl⟩) | (at_builtin; refine wpList_append_own _ rfl _ _ 51 rfl w.heap.size 68 i0 _ 3 24 Tryz.underlying51 hi hz0 hz1 hz2 rfl (by decide) _ _ _ rfl (HR.out.1.alloc _) ⟨wr.heap.size, 0, none⟩ 1 1 [.int .i64 7, .int .i64 (k : Int), .int .i64 (s.size : Int)] rfl rfl (tok_news _ _ _ _) (tok_plain _ _ _) (by unfold maxLen; omega) (by omega) (by simp; omega) ?_; intro v' w1 hown' hgrow _))
            rw [Exit.noGoto_ret]
            go_ret
            have e := HR.out.2.2.2
            rw [HA.out] at e
            refine ⟨_, rfl, ?_, (HR.out.2.1.alloc (by omega) _).grown hgrow (by simp; omega) (fun g e => (HR.out.1.lt g e).1)⟩
            rw [← e, ← toks_snoc, List.length_append]
            exact hown'
          | some n =>
            have ha := Lx.at_some s.data.toList k (by simpa using hlt) hw ho n hr
            have hb := Lx.rem_bounds _ _ _ (Nat.le_refl _) n hr
            rw [List.length_drop, ← sz] at hb
            obtain ⟨hb1, hb2⟩ := hb
            have ht := remEnd_any s k ho hk (by omega) wr
            unfold remAns at ht
            rw [hr] at ht
            have HT := Lib.hid ht
            have HA := Lib.hid ha
            have H1 := Lib.hid hr
            clear ht ha hr
            go_wp2_with (first | (go_at_call 39; refine (isWhite_any _ _).mono ?_; rintro e w' ⟨rfl, rfl⟩) | (go_at_call 40; refine (opens_at s k _).mono ?_; rintro e w' ⟨rfl, rfl⟩) | (go_at_call 41; refine HT.out.mono ?_; rintro e w' ⟨rfl, rfl⟩))
            go_roundw
            case rel => exact ⟨k + n, acc, by omega, by go_num, rel_move HR.out (by omega) HA.out⟩
            case measure => simp [intOf]; omega
      · go_wp2_with (first | (go_at_call 39; refine (isWhite_any _ _).mono ?_; rintro e w' ⟨rfl, rfl⟩))
        go_roundw
        case rel => exact ⟨k + 1, acc, by omega, by go_num, rel_move HR.out (by omega) (Lx.at_white _ _ (by simpa using hlt) hw)⟩
        case measure => simp [intOf]; omega
    · go_wp2
      rw [Exit.noGoto_ret]
      go_ret
      have e := HR.out.2.2.2
      rw [Lx.at_end _ _ (by rw [← sz]; omega), List.append_nil] at e
      refine ⟨_, rfl, ?_, HR.out.2.1⟩
      rw [← e]
      exact HR.out.1
end Go.Proofs.YtmpmibebkflaiaaGreatDoor
