/- The contracts of Word, Is and Kind. -/
import Derived.Test.YtmpmibebkflaiaaGreatDoorLexE
import Derived.Test.YtmpmibebkflaiaaGreatDoorMem
namespace Go.Proofs.YtmpmibebkflaiaaGreatDoor
open Go.RowKit Go.Lib
set_option maxRecDepth 100000
set_option linter.unusedVariables false

/-- the box of a token that is handed in. -/
def tokBox (k a b : Int) : Obj := .cells #[.int .i64 k, .int .i64 a, .int .i64 b] 68
def wordF (s : ByteArray) (a b : Int) : ByteArray := if 0 ≤ a ∧ a ≤ b ∧ b ≤ s.size then s.extract a.toNat b.toNat else { data := #[] }
def kindF (l : List UInt8) : Nat := if l = [] then 0 else if (Lx.tokF l).1 = 7 ∨ (Lx.tokF l).2 < l.length then 0 else (Lx.tokF l).1
theorem ret_str {a b : ByteArray} (h : a = b) : Ending.returned (.string a) = .returned (.string b) := by rw [h]
theorem word_any (s : ByteArray) (k a b : Int) (w : World) (hs : s.size ≤ 9223372036854775807) :
    Calls Tryz.prog 72 #[.string s, .agg #[.int .i64 k, .int .i64 a, .int .i64 b]] w fun e w' => e = .returned (.string (wordF s a b)) ∧ w.alloc (tokBox k a b) = w' := by
  go_enter Tryz.func72, Tryz.ntmps72
  go_wp2
  all_goals go_ret
  · rename_i h
    exact ⟨ret_str (by unfold wordF; rw [if_neg (by omega)]), rfl⟩
  · rename_i h
    exact ⟨ret_str (by unfold wordF; rw [if_pos (by omega)]), rfl⟩
  · have h1 : b < a := by assumption
    exact ⟨ret_str (by unfold wordF; rw [if_neg (by omega)]), rfl⟩
  · have h1 : a < 0 := by assumption
    exact ⟨ret_str (by unfold wordF; rw [if_neg (by omega)]), rfl⟩
theorem nil_kind {s : ByteArray} (h : s.toList.isEmpty = true) : (0 : Int) = (kindF s.data.toList : Nat) := by
  rw [toL, List.isEmpty_iff] at h
  rw [h]; rfl
theorem kind_any (s : ByteArray) (w : World) (hs : s.size ≤ 9223372036854775807) :
    Calls Tryz.prog 32 #[.string s] w fun e w' => e = .returned (.int .i64 (kindF s.data.toList)) ∧ w = w' := by
  by_cases h0 : 0 < s.size
  · have hne : s.toList.isEmpty = false := by
      rw [toL]
      cases e : s.data.toList with
      | nil => rw [sz, e] at h0; simp at h0
      | cons => rfl
    obtain ⟨kd, n, e1⟩ : ∃ kd n, Lx.tokF s.data.toList = (kd, n) := ⟨_, _, rfl⟩
    have ht := token_any s 0 h0 hs w
    unfold TokPost at ht
    rw [List.drop_zero, e1, Nat.zero_add] at ht
    have hk : kindF s.data.toList = if kd = 7 ∨ n < s.size then 0 else kd := by
      unfold kindF
      rw [if_neg (fun x => by rw [sz, x] at h0; simp at h0), e1, ← sz]
    have hb : n ≤ s.size := by
      rcases e : s.data.toList with _ | ⟨c, t⟩
      · rw [sz, e] at h0; simp at h0
      · have := (Lx.tok_bounds c t).2
        rw [← e, e1, ← sz] at this
        exact this
    have HK := Lib.hid hk
    have HT := Lib.hid (show Calls Tryz.prog 42 #[.string s, .int .i64 0] w _ from ht)
    clear e1 ht hk
    go_enter Tryz.func32, Tryz.ntmps32
    go_wp2_with (go_at_call 42; with_reducible (refine HT.out.mono ?_); rintro e w' ⟨rfl, rfl⟩)
    all_goals go_ret
    · have h : (kd : Int) = 7 := by assumption
      exact ⟨ret_int (by rw [HK.out, if_pos (.inl (by omega))]; rfl), rfl⟩
    · rename_i h1 h
      refine ⟨ret_int ?_, rfl⟩
      rw [HK.out, if_pos (h.imp (fun h => by simp at h; omega) id)]; rfl
    · rename_i h1 h
      refine ⟨ret_int ?_, rfl⟩
      rw [HK.out, if_neg (by simp at h; omega)]
  · have hne : s.toList.isEmpty = true := by
      rw [toL, List.isEmpty_iff]
      exact nil_of (by omega)
    have HN := Lib.hid (nil_kind hne)
    go_enter Tryz.func32, Tryz.ntmps32
    go_wp2
    go_ret
    exact ⟨ret_int HN.out, rfl⟩
end Go.Proofs.YtmpmibebkflaiaaGreatDoor
