/- The contract of text's end. -/
import Derived.Test.YtdeihlbnlogjcaaDoorTexO
namespace Go.Proofs.YtdeihlbnlogjcaaDoor
open Go.RowKit Go.Lib Go.Shelf
set_option maxRecDepth 100000
set_option linter.unusedVariables false

theorem backE_stop {L : List UInt8} {k : Nat} (h : contL L (L.length - k) = false) : backE L k = k := by
  cases k with
  | zero => rfl
  | succ k =>
    unfold backE
    rw [h]
    rfl
theorem backE_step {L : List UInt8} {k : Nat} (h : contL L (L.length - (k + 1)) = true) : backE L (k + 1) = backE L k := by
  conv => lhs; unfold backE
  simp [h]
theorem get_rev (s : ByteArray) (k : Nat) (h : k < s.size) : s.data.toList.reverse[k]? = some (s[s.size - 1 - k]'(by omega)) := by
  have hl : s.data.toList.length = s.size := by simp
  rw [List.getElem?_reverse (by omega), hl, get_str s _ (by omega)]
set_option maxHeartbeats 1500000 in
theorem end_any (s t : ByteArray) (w : World) (hs : s.size ≤ 1099511627) (ht : t.size ≤ 1099511627) :
    Calls Tryd.prog 69 #[.string s, .string t] w fun e w' => e = .returned (.int .i64 (endB s.data.toList t.data.toList : Nat)) ∧ ∃ q, w' = w.drewN q := by
  obtain ⟨C, hC⟩ : ∃ C, C = comE s.data.toList t.data.toList := ⟨_, rfl⟩
  have hle := com_le s.data.toList.reverse t.data.toList.reverse
  have hCC : comF s.data.toList.reverse t.data.toList.reverse = C := by rw [hC]; rfl
  rw [hCC, List.length_reverse, List.length_reverse, show s.data.toList.length = s.size by simp, show t.data.toList.length = t.size by simp] at hle
  obtain ⟨hc1, hc2⟩ := hle
  have HN := Lib.hid (show ∀ k, k ≤ C → (k < C ↔ k < s.size ∧ k < t.size ∧ s.data.toList.reverse[k]? = t.data.toList.reverse[k]?) from fun k hk => by
    have := com_next s.data.toList.reverse t.data.toList.reverse k (by rw [hCC]; exact hk)
    rw [hCC, List.length_reverse, List.length_reverse, show s.data.toList.length = s.size by simp, show t.data.toList.length = t.size by simp] at this
    exact this)
  obtain ⟨F, hF⟩ : ∃ F, F = endB s.data.toList t.data.toList := ⟨_, rfl⟩
  have HF := Lib.hid (show F = backE s.data.toList C by rw [hF, hC]; rfl)
  have HL := Lib.hid (show s.data.toList.length = s.size by simp)
  rw [← hF]
  clear hC hF hCC
  go_enter Tryd.func69, Tryd.ntmps69
  go_wp2
  go_loopw [5] (fun i wr => ∃ k : Nat, k ≤ C ∧ i = .int .i64 k ∧ RowKit.Hid (DrewQ w wr)) (fun i _ => C + 1 - (RowKit.intOf i).toNat)
  case atStart => exact ⟨0, by omega, rfl, DrewQ.refl w⟩
  case round =>
    obtain ⟨k, hk, rfl, HD⟩ := hrel
    have hks : k ≤ s.size := by omega
    have hkt : k ≤ t.size := by omega
    by_cases hkC : k < C
    · obtain ⟨h1, h2, h3⟩ := (HN.out k hk).1 hkC
      have hi1 : (k : Int) < s.size := by omega
      have hi2 : (k : Int) < t.size := by omega
      rw [get_rev s k h1, get_rev t k h2, Option.some.injEq] at h3
      obtain ⟨a, ha⟩ : ∃ a : Nat, a = s.size - 1 - k := ⟨_, rfl⟩
      obtain ⟨b, hb0⟩ : ∃ a : Nat, a = t.size - 1 - k := ⟨_, rfl⟩
      have ha1 : (s.size : Int) - 1 - k = a := by omega
      have hb1 : (t.size : Int) - 1 - k = b := by omega
      have ha2 : a < s.size := by omega
      have hb2 : b < t.size := by omega
      have ha3 : (a : Int) < s.size := by omega
      have hb3 : (b : Int) < t.size := by omega
      have hb : (((s[a].toNat : Nat) : Int) == ((t[b].toNat : Nat) : Int)) = true := by
        subst ha hb0
        rw [h3]
        simp
      clear ha hb0
      clear h3
      go_wp2
      go_quiet (fail)
      go_wp2
      go_roundw
      case rel => exact ⟨k + 1, by omega, by go_num, HD.out.more _⟩
      case measure => simp [RowKit.intOf]; omega
    · have HKC := Lib.hid (show k = C by omega)
      have hno : ¬ (k < s.size ∧ k < t.size ∧ s.data.toList.reverse[k]? = t.data.toList.reverse[k]?) := fun h => hkC ((HN.out k hk).2 h)
      rcases Nat.lt_or_ge k s.size with h1 | h1
      · rcases Nat.lt_or_ge k t.size with h2 | h2
        · have h3 : ¬ s.data.toList.reverse[k]? = t.data.toList.reverse[k]? := fun h => hno ⟨h1, h2, h⟩
          rw [get_rev s k h1, get_rev t k h2, Option.some.injEq] at h3
          have hi1 : (k : Int) < s.size := by omega
          have hi2 : (k : Int) < t.size := by omega
          obtain ⟨a, ha⟩ : ∃ a : Nat, a = s.size - 1 - k := ⟨_, rfl⟩
          obtain ⟨b, hb0⟩ : ∃ a : Nat, a = t.size - 1 - k := ⟨_, rfl⟩
          have ha1 : (s.size : Int) - 1 - k = a := by omega
          have hb1 : (t.size : Int) - 1 - k = b := by omega
          have ha2 : a < s.size := by omega
          have hb2 : b < t.size := by omega
          have ha3 : (a : Int) < s.size := by omega
          have hb3 : (b : Int) < t.size := by omega
          have hb : (((s[a].toNat : Nat) : Int) == ((t[b].toNat : Nat) : Int)) = false := by
            cases hb : (((s[a].toNat : Nat) : Int) == ((t[b].toNat : Nat) : Int))
            · rfl
            · exfalso
              refine h3 ?_
              subst ha hb0
              have := beq_iff_eq.1 hb
              exact UInt8.toNat_inj.1 (by omega)
          clear ha hb0 h3 hno hkC
          go_wp2
          go_quiet (fail)
          go_wp2
          go_loopw [5] (fun i wr => ∃ j : Nat, j ≤ C ∧ i = .int .i64 j ∧ RowKit.Hid (F = backE s.data.toList j) ∧ RowKit.Hid (DrewQ w wr)) (fun i _ => (RowKit.intOf i).toNat)
          case atStart => exact ⟨k, hk, rfl, by rw [HF.out, HKC.out]; rfl, HD.out.more _⟩
          case round =>
            obtain ⟨j, hj, rfl, HJ, HD2⟩ := hrel
            by_cases hj0 : j = 0
            · subst hj0
              have HR := Lib.hid (show F = 0 from HJ.out)
              go_wp2
              go_ret
              exact ⟨by rw [HR.out]; rfl, HD2.out⟩
            · have hjp : (j : Int) > 0 := by omega
              obtain ⟨i, rfl⟩ : ∃ i, j = i + 1 := ⟨j - 1, by omega⟩
              obtain ⟨a, ha⟩ : ∃ a : Nat, a = s.size - (i + 1) := ⟨_, rfl⟩
              have ha1 : (s.size : Int) - ((i + 1 : Nat) : Int) = a := by omega
              have ha1' : (s.size : Int) - ((i : Int) + 1) = a := by omega
              have ha2 : a < s.size := by omega
              have ha3 : (a : Int) < s.size := by omega
              cases hA : contL s.data.toList a
              · have HW1 := Lib.hid (within_of s a ha2 false hA)
                have HR := Lib.hid (show F = i + 1 from HJ.out.trans (backE_stop (by rw [HL.out, ← ha]; exact hA)))
                clear hA ha
                go_wp2_with (first | (go_at_call 81; with_reducible (refine (HW1.out _).mono ?_); rintro e x2 ⟨rfl, rfl⟩))
                go_ret
                exact ⟨by rw [HR.out]; rfl, HD2.out⟩
              · have HW1 := Lib.hid (within_of s a ha2 true hA)
                have HR := Lib.hid (HJ.out.trans (backE_step (by rw [HL.out, ← ha]; exact hA)))
                clear hA ha
                go_wp2_with (first | (go_at_call 81; with_reducible (refine (HW1.out _).mono ?_); rintro e x2 ⟨rfl, rfl⟩))
                go_roundw
                case rel => exact ⟨i, by omega, by go_num, HR.out, HD2.out⟩
                case measure => (simp [RowKit.intOf] <;> omega)
        · have hi1 : (k : Int) < s.size := by omega
          have hi2 : decide ((k : Int) < t.size) = false := decide_eq_false (by omega)
          have hi2' : decide (k < t.size) = false := decide_eq_false (by omega)
          clear hno hkC
          go_wp2
          go_quiet (fail)
          go_wp2
          go_loopw [5] (fun i wr => ∃ j : Nat, j ≤ C ∧ i = .int .i64 j ∧ RowKit.Hid (F = backE s.data.toList j) ∧ RowKit.Hid (DrewQ w wr)) (fun i _ => (RowKit.intOf i).toNat)
          case atStart => exact ⟨k, hk, rfl, by rw [HF.out, HKC.out]; rfl, HD.out.more _⟩
          case round =>
            obtain ⟨j, hj, rfl, HJ, HD2⟩ := hrel
            by_cases hj0 : j = 0
            · subst hj0
              have HR := Lib.hid (show F = 0 from HJ.out)
              go_wp2
              go_ret
              exact ⟨by rw [HR.out]; rfl, HD2.out⟩
            · have hjp : (j : Int) > 0 := by omega
              obtain ⟨i, rfl⟩ : ∃ i, j = i + 1 := ⟨j - 1, by omega⟩
              obtain ⟨a, ha⟩ : ∃ a : Nat, a = s.size - (i + 1) := ⟨_, rfl⟩
              have ha1 : (s.size : Int) - ((i + 1 : Nat) : Int) = a := by omega
              have ha1' : (s.size : Int) - ((i : Int) + 1) = a := by omega
              have ha2 : a < s.size := by omega
              have ha3 : (a : Int) < s.size := by omega
              cases hA : contL s.data.toList a
              · have HW1 := Lib.hid (within_of s a ha2 false hA)
                have HR := Lib.hid (show F = i + 1 from HJ.out.trans (backE_stop (by rw [HL.out, ← ha]; exact hA)))
                clear hA ha
                go_wp2_with (first | (go_at_call 81; with_reducible (refine (HW1.out _).mono ?_); rintro e x2 ⟨rfl, rfl⟩))
                go_ret
                exact ⟨by rw [HR.out]; rfl, HD2.out⟩
              · have HW1 := Lib.hid (within_of s a ha2 true hA)
                have HR := Lib.hid (HJ.out.trans (backE_step (by rw [HL.out, ← ha]; exact hA)))
                clear hA ha
                go_wp2_with (first | (go_at_call 81; with_reducible (refine (HW1.out _).mono ?_); rintro e x2 ⟨rfl, rfl⟩))
                go_roundw
                case rel => exact ⟨i, by omega, by go_num, HR.out, HD2.out⟩
                case measure => (simp [RowKit.intOf] <;> omega)
      · have hi1 : decide ((k : Int) < s.size) = false := decide_eq_false (by omega)
        have hi1' : decide (k < s.size) = false := decide_eq_false (by omega)
        clear hno hkC
        go_wp2
        go_quiet (fail)
        go_wp2
        go_loopw [5] (fun i wr => ∃ j : Nat, j ≤ C ∧ i = .int .i64 j ∧ RowKit.Hid (F = backE s.data.toList j) ∧ RowKit.Hid (DrewQ w wr)) (fun i _ => (RowKit.intOf i).toNat)
        case atStart => exact ⟨k, hk, rfl, by rw [HF.out, HKC.out]; rfl, HD.out.more _⟩
        case round =>
          obtain ⟨j, hj, rfl, HJ, HD2⟩ := hrel
          by_cases hj0 : j = 0
          · subst hj0
            have HR := Lib.hid (show F = 0 from HJ.out)
            go_wp2
            go_ret
            exact ⟨by rw [HR.out]; rfl, HD2.out⟩
          · have hjp : (j : Int) > 0 := by omega
            obtain ⟨i, rfl⟩ : ∃ i, j = i + 1 := ⟨j - 1, by omega⟩
            obtain ⟨a, ha⟩ : ∃ a : Nat, a = s.size - (i + 1) := ⟨_, rfl⟩
            have ha1 : (s.size : Int) - ((i + 1 : Nat) : Int) = a := by omega
            have ha1' : (s.size : Int) - ((i : Int) + 1) = a := by omega
            have ha2 : a < s.size := by omega
            have ha3 : (a : Int) < s.size := by omega
            cases hA : contL s.data.toList a
            · have HW1 := Lib.hid (within_of s a ha2 false hA)
              have HR := Lib.hid (show F = i + 1 from HJ.out.trans (backE_stop (by rw [HL.out, ← ha]; exact hA)))
              clear hA ha
              go_wp2_with (first | (go_at_call 81; with_reducible (refine (HW1.out _).mono ?_); rintro e x2 ⟨rfl, rfl⟩))
              go_ret
              exact ⟨by rw [HR.out]; rfl, HD2.out⟩
            · have HW1 := Lib.hid (within_of s a ha2 true hA)
              have HR := Lib.hid (HJ.out.trans (backE_step (by rw [HL.out, ← ha]; exact hA)))
              clear hA ha
              go_wp2_with (first | (go_at_call 81; with_reducible (refine (HW1.out _).mono ?_); rintro e x2 ⟨rfl, rfl⟩))
              go_roundw
              case rel => exact ⟨i, by omega, by go_num, HR.out, HD2.out⟩
              case measure => (simp [RowKit.intOf] <;> omega)
end Go.Proofs.YtdeihlbnlogjcaaDoor
