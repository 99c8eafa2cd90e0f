/- The contract of the document's Kind. -/
import Derived.Test.YtmpmibebkflaiaaGreatDoorRefF
import Derived.Test.YtmpmibebkflaiaaGreatDoorLexK
import Derived.Test.YtmpmibebkflaiaaGreatDoorLexM
import Derived.Test.YtmpmibebkflaiaaGreatDoorLexSa
namespace Go.Proofs.YtmpmibebkflaiaaGreatDoor
open Go.RowKit Go.Lib
set_option maxRecDepth 100000
set_option linter.unusedVariables false
set_option linter.unusedSectionVars false

/-! ### Kind -/
def kindT (ts : List Lx.Tok) (n : Nat) : Nat := match ts with | [t] => if t.a = 0 ∧ t.b = n ∧ t.kind ≠ 7 then t.kind else 0 | _ => 0
theorem white_tok (c : UInt8) (t : List UInt8) (h : Lx.isWhite c = true) : (Lx.tokF (c :: t)).1 = 7 := by
  simp only [Lx.isWhite, decide_eq_true_eq] at h
  have e : c = 32 ∨ c = 9 ∨ c = 10 ∨ c = 13 := by
    rcases h with h | h | h | h
    · exact .inl (UInt8.toNat_inj.1 h)
    · exact .inr (.inl (UInt8.toNat_inj.1 h))
    · exact .inr (.inr (.inl (UInt8.toNat_inj.1 h)))
    · exact .inr (.inr (.inr (UInt8.toNat_inj.1 h)))
  clear h
  rcases e with rfl | rfl | rfl | rfl <;> (match t with | [] => rfl | _ :: _ => rfl)
theorem open_tok (l : List UInt8) (h : Lx.opens l = true) : Lx.tokF l = (6, 1) ∧ 2 ≤ l.length := by
  match l, h with
  | a :: b :: t, h =>
    simp only [Lx.opens, decide_eq_true_eq] at h
    obtain ⟨h1, h2⟩ := h
    have e1 : a = 40 := UInt8.toNat_inj.1 h1
    have e2 : b = 42 := UInt8.toNat_inj.1 h2
    subst e1 e2
    exact ⟨rfl, by simp⟩
theorem kind_lex (l : List UInt8) : kindT (Lx.lexF l) l.length = kindF l := by
  by_cases h0 : kindF l = 0
  · rw [h0]
    unfold kindT
    split
    · rename_i t ht
      split
      · rename_i h
        exfalso
        have hm : t ∈ Lx.lexF l := by rw [ht]; simp
        obtain ⟨h1, h2, h3, h4⟩ := Lx.lex_at l hm
        have e := h4 h.2.2
        rw [h.1, h.2.1, List.drop_zero, Nat.sub_zero] at e
        have hk := (tok_kind (l.head (by intro x; rw [x] at h1; simp at h1)) l.tail).1
        rw [List.cons_head_tail, e] at hk
        unfold kindF at h0
        rw [if_neg (by intro x; rw [x] at h1; simp at h1), e, if_neg (by simp [h.2.2])] at h0
        exact hk h0
      · rfl
    · rfl
  · have h1 := h0
    unfold kindF at h0 h1 ⊢
    split at h1
    · simp at h1
    · rename_i hl
      rw [if_neg hl]
      split at h1
      · simp at h1
      · rename_i hc
        rw [if_neg hc]
        obtain ⟨hc1, hc2⟩ := not_or.1 hc
        rcases l with _ | ⟨c, t⟩
        · exact absurd rfl hl
        · have hb := (Lx.tok_bounds c t).2
          have hw : Lx.isWhite c = false := by
            rw [Bool.eq_false_iff]
            intro hw
            exact hc1 (white_tok c t hw)
          have ho : Lx.opens (c :: t) = false := by
            rw [Bool.eq_false_iff]
            intro ho
            obtain ⟨e1, e2⟩ := open_tok _ ho
            rw [e1] at hc2
            exact hc2 (by simp only; omega)
          have := Lx.at_tok (c :: t) 0 (by simp) hw ho
          rw [List.drop_zero, Nat.zero_add, Lx.at_end (c :: t) (Lx.tokF (c :: t)).2 (by omega)] at this
          rw [Lx.lexF_at, this]
          show (if 0 = 0 ∧ (Lx.tokF (c :: t)).2 = (c :: t).length ∧ (Lx.tokF (c :: t)).1 ≠ 7 then (Lx.tokF (c :: t)).1 else 0) = _
          rw [if_pos ⟨rfl, by omega, hc1⟩]
theorem kindT_far {ts : List Lx.Tok} {n : Nat} (h : ¬ ts.length = 1) : kindT ts n = 0 := by
  match ts, h with
  | [], _ => rfl
  | [_], h => exact absurd rfl h
  | _ :: _ :: _, _ => rfl
theorem rkind_any (s : ByteArray) (w : World) (hs : s.size ≤ 1099511627776) :
    Calls Tryz.prog 33 #[.string s] w fun e w' => e = .returned (.int .i64 (kindF s.data.toList)) ∧ Below w.heap.size w w' := by
  have hk := kind_lex s.data.toList
  rw [← sz] at hk
  have HK := Lib.hid hk
  obtain ⟨ts, hts⟩ : ∃ ts, ts = Lx.lexF s.data.toList := ⟨_, rfl⟩
  have HTS := Lib.hid hts
  clear hk hts
  go_enter Tryz.func33, Tryz.ntmps33
  go_wp2_with fail
  refine (rlex_any _ hs _).mono ?_
  rintro e w1 ⟨v, rfl, hown, hb⟩
  rw [← HTS.out] at hown
  have HB := Lib.hid hb
  have hrd := Rd.of_own hown
  clear hown hb
  obtain ⟨hl, A, c, rfl, hc, hr⟩ := hrd
  by_cases h1 : ts.length = 1
  · obtain ⟨t, rfl⟩ := List.length_eq_one_iff.1 h1
    obtain ⟨g, o, rfl, hg, hr⟩ := hr (by omega)
    obtain ⟨t', ht, d0, d1, d2⟩ := rd_tok hr rfl (k := 0) (by simp)
    obtain rfl : t = t' := by simpa using ht
    simp only [Nat.zero_mul, Nat.add_zero] at d0 d1 d2
    have HF : RowKit.Hid (kindF s.data.toList = if t.a = 0 ∧ t.b = s.size ∧ t.kind ≠ 7 then t.kind else 0) := Lib.hid (by rw [← HK.out, ← HTS.out]; rfl)
    clear hr ht hl
    simp only [List.length_singleton] at hc ⊢
    go_wp2
    all_goals go_ret
    · have h3 : ((t.kind : Int) == 7) = true := by assumption
      exact ⟨ret_int (by rw [HF.out, if_neg (by simp at h3; omega)]; rfl), HB.out⟩
    · have h3 : ((t.kind : Int) == 7) = false := by assumption
      have h2 : (t.b : Int) = s.size := by assumption
      exact ⟨ret_int (by rw [HF.out, if_pos ⟨‹_›, by omega, by simp at h3; omega⟩]), HB.out⟩
    · have h2 : ¬ (t.b : Int) = s.size := by assumption
      exact ⟨ret_int (by rw [HF.out, if_neg (by omega)]; rfl), HB.out⟩
    · have h1 : ¬ t.a = 0 := by assumption
      exact ⟨ret_int (by rw [HF.out, if_neg (by omega)]; rfl), HB.out⟩
  · have HF := Lib.hid (show kindF s.data.toList = 0 from by rw [← HK.out, ← HTS.out]; exact kindT_far h1)
    have hb1 : ((ts.length : Int) != 1) = true := by simp; omega
    clear hr hl
    go_wp2
    go_ret
    exact ⟨ret_int (by rw [HF.out]; rfl), HB.out⟩
end Go.Proofs.YtmpmibebkflaiaaGreatDoor
