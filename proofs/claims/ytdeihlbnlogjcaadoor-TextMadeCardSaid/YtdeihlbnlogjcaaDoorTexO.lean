/- The contracts of text's within, front, end. -/
import Derived.Test.YtdeihlbnlogjcaaDoorTexN
namespace Go.Proofs.YtdeihlbnlogjcaaDoor
open Go.RowKit Go.Lib Go.Shelf
set_option maxRecDepth 100000
set_option linter.unusedVariables false

theorem within_any (c : UInt8) (w : World) : Calls Tryd.prog 81 #[.int .u8 (c.toNat : Nat)] w fun e w' => e = .returned (.bool (contB c)) ∧ w = w' := by
  have h := c.toNat_lt
  have HC := Lib.hid (show contB c = (((c.toNat : Nat) : Int) / 64 == 2) by
    unfold contB
    rw [Bool.eq_iff_iff, decide_eq_true_eq, beq_iff_eq]
    omega)
  go_enter Tryd.func81, Tryd.ntmps81
  go_wp2
  go_ret
  exact ⟨by rw [HC.out]; rfl, rfl⟩
theorem get_str (s : ByteArray) (k : Nat) (h : k < s.size) : s.data.toList[k]? = some s[k] := by
  have hk : k < s.data.toList.length := by simpa using h
  rw [List.getElem?_eq_getElem hk]
  rfl
theorem cont_str (s : ByteArray) (k : Nat) (h : k < s.size) : contL s.data.toList k = contB s[k] := by
  unfold contL
  rw [get_str s k h]
def DrewQ (w w' : World) : Prop := ∃ q, w' = w.drewN q
theorem DrewQ.refl (w : World) : DrewQ w w := ⟨0, rfl⟩
theorem DrewQ.more {w w' : World} (h : DrewQ w w') (n : Nat) : DrewQ w (w'.drewN n) := by
  obtain ⟨q, rfl⟩ := h
  exact ⟨q + n, by simp⟩
theorem backN_stop {L M : List UInt8} {k : Nat} (h1 : contL L k = false) (h2 : contL M k = false) : backN L M k = k := by
  cases k with
  | zero => rfl
  | succ k =>
    unfold backN
    rw [h1, h2]
    rfl
theorem backN_step {L M : List UInt8} {k : Nat} (h : contL L (k + 1) = true ∨ contL M (k + 1) = true) : backN L M (k + 1) = backN L M k := by
  conv => lhs; unfold backN
  rcases h with h | h <;> simp [h]
theorem cont_lt {s : ByteArray} {k : Nat} (h : contL s.data.toList k = true) : k < s.size := by
  unfold contL at h
  rcases Nat.lt_or_ge k s.data.toList.length with hk | hk
  · simpa using hk
  · rw [List.getElem?_eq_none hk] at h
    cases h
theorem within_of (s : ByteArray) (k : Nat) (h : k < s.size) (b : Bool) (hb : contL s.data.toList k = b) (W : World) : Calls Tryd.prog 81 #[.int .u8 (s[k].toNat : Nat)] W fun e w' => e = .returned (.bool b) ∧ W = w' := by
  have := within_any s[k] W
  rw [← cont_str s k h, hb] at this
  exact this
set_option maxHeartbeats 1500000 in
theorem front_any (s t : ByteArray) (w : World) (hs : s.size ≤ 1099511627) (ht : t.size ≤ 1099511627) (vs_ : validD s.data.toList = true) (vt : validD t.data.toList = true) :
    Calls Tryd.prog 68 #[.string s, .string t] w fun e w' => e = .returned (.int .i64 (frontB s.data.toList t.data.toList : Nat)) ∧ DrewQ w w' := by
  obtain ⟨C, hC⟩ : ∃ C, C = comF s.data.toList t.data.toList := ⟨_, rfl⟩
  have hle := com_le s.data.toList t.data.toList
  rw [← hC, show s.data.toList.length = s.size by simp, show t.data.toList.length = t.size by simp] at hle
  obtain ⟨hc1, hc2⟩ := hle
  have HN := Lib.hid (show ∀ k, k ≤ C → (k < C ↔ k < s.size ∧ k < t.size ∧ s.data.toList[k]? = t.data.toList[k]?) from fun k hk => by
    have := com_next s.data.toList t.data.toList k (hC ▸ hk)
    rw [← hC, show s.data.toList.length = s.size by simp, show t.data.toList.length = t.size by simp] at this
    exact this)
  obtain ⟨F, hF⟩ : ∃ F, F = frontB s.data.toList t.data.toList := ⟨_, rfl⟩
  have HF := Lib.hid (show F = backN s.data.toList t.data.toList C by rw [hF, hC]; rfl)
  rw [← hF]
  have HZ := Lib.hid (And.intro (cont_zero vs_) (cont_zero vt))
  clear hC hF vs_ vt
  go_enter Tryd.func68, Tryd.ntmps68
  go_wp2
  go_loopw [5] (fun i wr => ∃ k : Nat, k ≤ C ∧ i = .int .i64 k ∧ RowKit.Hid (DrewQ w wr)) (fun i _ => C + 1 - (RowKit.intOf i).toNat)
  case atStart => exact ⟨0, by omega, rfl, DrewQ.refl w⟩
  case round =>
    obtain ⟨k, hk, rfl, HD⟩ := hrel
    have hks : k ≤ s.size := by omega
    have hkt : k ≤ t.size := by omega
    by_cases hkC : k < C
    · obtain ⟨h1, h2, h3⟩ := (HN.out k hk).1 hkC
      have hi1 : (k : Int) < s.size := by omega
      have hi2 : (k : Int) < t.size := by omega
      rw [get_str s k h1, get_str t k h2, Option.some.injEq] at h3
      have hb : (((s[k].toNat : Nat) : Int) == ((t[k].toNat : Nat) : Int)) = true := by rw [h3]; simp
      clear h3
      go_wp2
      go_quiet (fail)
      go_wp2
      go_roundw
      case rel => exact ⟨k + 1, by omega, by go_num, HD.out.more _⟩
      case measure => (simp [RowKit.intOf] <;> omega)
    · have HKC := Lib.hid (show k = C by omega)
      have hno : ¬ (k < s.size ∧ k < t.size ∧ s.data.toList[k]? = t.data.toList[k]?) := fun h => hkC ((HN.out k hk).2 h)
      have h3 : k ≥ s.size ∨ (k < s.size ∧ k ≥ t.size) ∨ ∃ (h1 : k < s.size) (h2 : k < t.size), (((s[k].toNat : Nat) : Int) == ((t[k].toNat : Nat) : Int)) = false := by
        rcases Nat.lt_or_ge k s.size with h1 | h1
        · rcases Nat.lt_or_ge k t.size with h2 | h2
          · right; right
            refine ⟨h1, h2, ?_⟩
            cases hb : (((s[k].toNat : Nat) : Int) == ((t[k].toNat : Nat) : Int))
            · rfl
            · exfalso
              refine hno ⟨h1, h2, ?_⟩
              rw [get_str s k h1, get_str t k h2]
              have := beq_iff_eq.1 hb
              rw [UInt8.toNat_inj.1 (by omega : s[k].toNat = t[k].toNat)]
          · exact .inr (.inl ⟨h1, h2⟩)
        · exact .inl h1
      clear hkC hno
      rcases h3 with h1 | ⟨h1, h2⟩ | ⟨h1, h2, hb⟩
      · have hi1 : decide ((k : Int) < s.size) = false := decide_eq_false (by omega)
        have hi1' : decide (k < s.size) = false := decide_eq_false (by omega)
        go_wp2
        go_quiet (fail)
        go_wp2
        go_loopw [5] (fun i wr => ∃ j : Nat, j ≤ C ∧ i = .int .i64 j ∧ RowKit.Hid (F = backN s.data.toList t.data.toList j) ∧ RowKit.Hid (DrewQ w wr)) (fun i _ => (RowKit.intOf i).toNat)
        case atStart => exact ⟨k, hk, rfl, by rw [HF.out, HKC.out]; rfl, HD.out.more _⟩
        case round =>
          obtain ⟨j, hj, rfl, HJ, HD2⟩ := hrel
          have hjs : j ≤ s.size := by omega
          have hjt : j ≤ t.size := by omega
          cases hA : contL s.data.toList j
          · have HA := Lib.hid hA
            cases hB : contL t.data.toList j
            · have HR := Lib.hid (HJ.out.trans (backN_stop hA hB))
              have HB := Lib.hid hB
              clear hA hB
              by_cases g1 : j < s.size
              · have gi1 : (j : Int) < s.size := by omega
                have HW1 := Lib.hid (within_of s j g1 false HA.out)
                by_cases g2 : j < t.size
                · have gi2 : (j : Int) < t.size := by omega
                  have HW2 := Lib.hid (within_of t j g2 false HB.out)
                  go_wp2_with (first | (go_at_call 81; with_reducible (first | refine (HW1.out _).mono ?_ | refine (HW2.out _).mono ?_); rintro e x2 ⟨rfl, rfl⟩))
                  go_ret
                  exact ⟨by rw [HR.out]; rfl, HD2.out⟩
                · have gi2 : ¬ (j : Int) < t.size := by omega
                  go_wp2_with (first | (go_at_call 81; with_reducible (refine (HW1.out _).mono ?_); rintro e x2 ⟨rfl, rfl⟩))
                  go_ret
                  exact ⟨by rw [HR.out]; rfl, HD2.out⟩
              · have gi1 : ¬ (j : Int) < s.size := by omega
                by_cases g2 : j < t.size
                · have gi2 : (j : Int) < t.size := by omega
                  have HW2 := Lib.hid (within_of t j g2 false HB.out)
                  go_wp2_with (first | (go_at_call 81; with_reducible (refine (HW2.out _).mono ?_); rintro e x2 ⟨rfl, rfl⟩))
                  go_ret
                  exact ⟨by rw [HR.out]; rfl, HD2.out⟩
                · have gi2 : ¬ (j : Int) < t.size := by omega
                  go_wp2
                  go_ret
                  exact ⟨by rw [HR.out]; rfl, HD2.out⟩
            · have g2 := cont_lt hB
              have gi2 : (j : Int) < t.size := by omega
              have HW2 := Lib.hid (within_of t j g2 true hB)
              obtain ⟨i, rfl⟩ : ∃ i, j = i + 1 := ⟨j - 1, by
                rcases Nat.eq_zero_or_pos j with h | h
                · subst h
                  have := HZ.out.2
                  rw [hB] at this
                  cases this
                · omega⟩
              have HR := Lib.hid (HJ.out.trans (backN_step (.inr hB)))
              clear hA hB
              by_cases g1 : i + 1 < s.size
              · have gi1 : ((i + 1 : Nat) : Int) < s.size := by omega
                have HW1 := Lib.hid (within_of s (i + 1) g1 false HA.out)
                go_wp2_with (first | (go_at_call 81; with_reducible (first | refine (HW1.out _).mono ?_ | refine (HW2.out _).mono ?_); rintro e x2 ⟨rfl, rfl⟩))
                go_roundw
                case rel => exact ⟨i, by omega, by go_num, HR.out, HD2.out⟩
                case measure => (simp [RowKit.intOf] <;> omega)
              · have gi1 : ¬ ((i + 1 : Nat) : Int) < s.size := by omega
                go_wp2_with (first | (go_at_call 81; with_reducible (refine (HW2.out _).mono ?_); rintro e x2 ⟨rfl, rfl⟩))
                all_goals
                  go_roundw
                  case rel => exact ⟨i, by omega, by go_num, HR.out, HD2.out⟩
                  case measure => (simp [RowKit.intOf] <;> omega)
          · have g1 := cont_lt hA
            have gi1 : (j : Int) < s.size := by omega
            have HW1 := Lib.hid (within_of s j g1 true hA)
            obtain ⟨i, rfl⟩ : ∃ i, j = i + 1 := ⟨j - 1, by
              rcases Nat.eq_zero_or_pos j with h | h
              · subst h
                have := HZ.out.1
                rw [hA] at this
                cases this
              · omega⟩
            have HR := Lib.hid (HJ.out.trans (backN_step (.inl hA)))
            clear hA
            go_wp2_with (first | (go_at_call 81; with_reducible (refine (HW1.out _).mono ?_); rintro e x2 ⟨rfl, rfl⟩))
            go_roundw
            case rel => exact ⟨i, by omega, by go_num, HR.out, HD2.out⟩
            case measure => (simp [RowKit.intOf] <;> omega)
      · have hi1 : (k : Int) < s.size := by omega
        have hi2 : decide ((k : Int) < t.size) = false := decide_eq_false (by omega)
        have hi2' : decide (k < t.size) = false := decide_eq_false (by omega)
        go_wp2
        go_quiet (fail)
        go_wp2
        go_loopw [5] (fun i wr => ∃ j : Nat, j ≤ C ∧ i = .int .i64 j ∧ RowKit.Hid (F = backN s.data.toList t.data.toList j) ∧ RowKit.Hid (DrewQ w wr)) (fun i _ => (RowKit.intOf i).toNat)
        case atStart => exact ⟨k, hk, rfl, by rw [HF.out, HKC.out]; rfl, HD.out.more _⟩
        case round =>
          obtain ⟨j, hj, rfl, HJ, HD2⟩ := hrel
          have hjs : j ≤ s.size := by omega
          have hjt : j ≤ t.size := by omega
          cases hA : contL s.data.toList j
          · have HA := Lib.hid hA
            cases hB : contL t.data.toList j
            · have HR := Lib.hid (HJ.out.trans (backN_stop hA hB))
              have HB := Lib.hid hB
              clear hA hB
              by_cases g1 : j < s.size
              · have gi1 : (j : Int) < s.size := by omega
                have HW1 := Lib.hid (within_of s j g1 false HA.out)
                by_cases g2 : j < t.size
                · have gi2 : (j : Int) < t.size := by omega
                  have HW2 := Lib.hid (within_of t j g2 false HB.out)
                  go_wp2_with (first | (go_at_call 81; with_reducible (first | refine (HW1.out _).mono ?_ | refine (HW2.out _).mono ?_); rintro e x2 ⟨rfl, rfl⟩))
                  go_ret
                  exact ⟨by rw [HR.out]; rfl, HD2.out⟩
                · have gi2 : ¬ (j : Int) < t.size := by omega
                  go_wp2_with (first | (go_at_call 81; with_reducible (refine (HW1.out _).mono ?_); rintro e x2 ⟨rfl, rfl⟩))
                  go_ret
                  exact ⟨by rw [HR.out]; rfl, HD2.out⟩
              · have gi1 : ¬ (j : Int) < s.size := by omega
                by_cases g2 : j < t.size
                · have gi2 : (j : Int) < t.size := by omega
                  have HW2 := Lib.hid (within_of t j g2 false HB.out)
                  go_wp2_with (first | (go_at_call 81; with_reducible (refine (HW2.out _).mono ?_); rintro e x2 ⟨rfl, rfl⟩))
                  go_ret
                  exact ⟨by rw [HR.out]; rfl, HD2.out⟩
                · have gi2 : ¬ (j : Int) < t.size := by omega
                  go_wp2
                  go_ret
                  exact ⟨by rw [HR.out]; rfl, HD2.out⟩
            · have g2 := cont_lt hB
              have gi2 : (j : Int) < t.size := by omega
              have HW2 := Lib.hid (within_of t j g2 true hB)
              obtain ⟨i, rfl⟩ : ∃ i, j = i + 1 := ⟨j - 1, by
                rcases Nat.eq_zero_or_pos j with h | h
                · subst h
                  have := HZ.out.2
                  rw [hB] at this
                  cases this
                · omega⟩
              have HR := Lib.hid (HJ.out.trans (backN_step (.inr hB)))
              clear hA hB
              by_cases g1 : i + 1 < s.size
              · have gi1 : ((i + 1 : Nat) : Int) < s.size := by omega
                have HW1 := Lib.hid (within_of s (i + 1) g1 false HA.out)
                go_wp2_with (first | (go_at_call 81; with_reducible (first | refine (HW1.out _).mono ?_ | refine (HW2.out _).mono ?_); rintro e x2 ⟨rfl, rfl⟩))
                go_roundw
                case rel => exact ⟨i, by omega, by go_num, HR.out, HD2.out⟩
                case measure => (simp [RowKit.intOf] <;> omega)
              · have gi1 : ¬ ((i + 1 : Nat) : Int) < s.size := by omega
                go_wp2_with (first | (go_at_call 81; with_reducible (refine (HW2.out _).mono ?_); rintro e x2 ⟨rfl, rfl⟩))
                all_goals
                  go_roundw
                  case rel => exact ⟨i, by omega, by go_num, HR.out, HD2.out⟩
                  case measure => (simp [RowKit.intOf] <;> omega)
          · have g1 := cont_lt hA
            have gi1 : (j : Int) < s.size := by omega
            have HW1 := Lib.hid (within_of s j g1 true hA)
            obtain ⟨i, rfl⟩ : ∃ i, j = i + 1 := ⟨j - 1, by
              rcases Nat.eq_zero_or_pos j with h | h
              · subst h
                have := HZ.out.1
                rw [hA] at this
                cases this
              · omega⟩
            have HR := Lib.hid (HJ.out.trans (backN_step (.inl hA)))
            clear hA
            go_wp2_with (first | (go_at_call 81; with_reducible (refine (HW1.out _).mono ?_); rintro e x2 ⟨rfl, rfl⟩))
            go_roundw
            case rel => exact ⟨i, by omega, by go_num, HR.out, HD2.out⟩
            case measure => (simp [RowKit.intOf] <;> omega)
      · have hi1 : (k : Int) < s.size := by omega
        have hi2 : (k : Int) < t.size := by omega
        go_wp2
        go_quiet (fail)
        go_wp2
        go_loopw [5] (fun i wr => ∃ j : Nat, j ≤ C ∧ i = .int .i64 j ∧ RowKit.Hid (F = backN s.data.toList t.data.toList j) ∧ RowKit.Hid (DrewQ w wr)) (fun i _ => (RowKit.intOf i).toNat)
        case atStart => exact ⟨k, hk, rfl, by rw [HF.out, HKC.out]; rfl, HD.out.more _⟩
        case round =>
          obtain ⟨j, hj, rfl, HJ, HD2⟩ := hrel
          have hjs : j ≤ s.size := by omega
          have hjt : j ≤ t.size := by omega
          cases hA : contL s.data.toList j
          · have HA := Lib.hid hA
            cases hB : contL t.data.toList j
            · have HR := Lib.hid (HJ.out.trans (backN_stop hA hB))
              have HB := Lib.hid hB
              clear hA hB
              by_cases g1 : j < s.size
              · have gi1 : (j : Int) < s.size := by omega
                have HW1 := Lib.hid (within_of s j g1 false HA.out)
                by_cases g2 : j < t.size
                · have gi2 : (j : Int) < t.size := by omega
                  have HW2 := Lib.hid (within_of t j g2 false HB.out)
                  go_wp2_with (first | (go_at_call 81; with_reducible (first | refine (HW1.out _).mono ?_ | refine (HW2.out _).mono ?_); rintro e x2 ⟨rfl, rfl⟩))
                  go_ret
                  exact ⟨by rw [HR.out]; rfl, HD2.out⟩
                · have gi2 : ¬ (j : Int) < t.size := by omega
                  go_wp2_with (first | (go_at_call 81; with_reducible (refine (HW1.out _).mono ?_); rintro e x2 ⟨rfl, rfl⟩))
                  go_ret
                  exact ⟨by rw [HR.out]; rfl, HD2.out⟩
              · have gi1 : ¬ (j : Int) < s.size := by omega
                by_cases g2 : j < t.size
                · have gi2 : (j : Int) < t.size := by omega
                  have HW2 := Lib.hid (within_of t j g2 false HB.out)
                  go_wp2_with (first | (go_at_call 81; with_reducible (refine (HW2.out _).mono ?_); rintro e x2 ⟨rfl, rfl⟩))
                  go_ret
                  exact ⟨by rw [HR.out]; rfl, HD2.out⟩
                · have gi2 : ¬ (j : Int) < t.size := by omega
                  go_wp2
                  go_ret
                  exact ⟨by rw [HR.out]; rfl, HD2.out⟩
            · have g2 := cont_lt hB
              have gi2 : (j : Int) < t.size := by omega
              have HW2 := Lib.hid (within_of t j g2 true hB)
              obtain ⟨i, rfl⟩ : ∃ i, j = i + 1 := ⟨j - 1, by
                rcases Nat.eq_zero_or_pos j with h | h
                · subst h
                  have := HZ.out.2
                  rw [hB] at this
                  cases this
                · omega⟩
              have HR := Lib.hid (HJ.out.trans (backN_step (.inr hB)))
              clear hA hB
              by_cases g1 : i + 1 < s.size
              · have gi1 : ((i + 1 : Nat) : Int) < s.size := by omega
                have HW1 := Lib.hid (within_of s (i + 1) g1 false HA.out)
                go_wp2_with (first | (go_at_call 81; with_reducible (first | refine (HW1.out _).mono ?_ | refine (HW2.out _).mono ?_); rintro e x2 ⟨rfl, rfl⟩))
                go_roundw
                case rel => exact ⟨i, by omega, by go_num, HR.out, HD2.out⟩
                case measure => (simp [RowKit.intOf] <;> omega)
              · have gi1 : ¬ ((i + 1 : Nat) : Int) < s.size := by omega
                go_wp2_with (first | (go_at_call 81; with_reducible (refine (HW2.out _).mono ?_); rintro e x2 ⟨rfl, rfl⟩))
                all_goals
                  go_roundw
                  case rel => exact ⟨i, by omega, by go_num, HR.out, HD2.out⟩
                  case measure => (simp [RowKit.intOf] <;> omega)
          · have g1 := cont_lt hA
            have gi1 : (j : Int) < s.size := by omega
            have HW1 := Lib.hid (within_of s j g1 true hA)
            obtain ⟨i, rfl⟩ : ∃ i, j = i + 1 := ⟨j - 1, by
              rcases Nat.eq_zero_or_pos j with h | h
              · subst h
                have := HZ.out.1
                rw [hA] at this
                cases this
              · omega⟩
            have HR := Lib.hid (HJ.out.trans (backN_step (.inl hA)))
            clear hA
            go_wp2_with (first | (go_at_call 81; with_reducible (refine (HW1.out _).mono ?_); rintro e x2 ⟨rfl, rfl⟩))
            go_roundw
            case rel => exact ⟨i, by omega, by go_num, HR.out, HD2.out⟩
            case measure => (simp [RowKit.intOf] <;> omega)
end Go.Proofs.YtdeihlbnlogjcaaDoor
