/- The contracts of frame's isName and digits. -/
import Derived.Test.YtphnplpgeoleeaaDoorMem
import Derived.Lib.Hide
import Derived.Lib.Bytealg
namespace Go.Proofs.YtphnplpgeoleeaaDoor
open Go.RowKit Go.Lib
set_option maxRecDepth 100000
set_option linter.unusedVariables false

theorem or32_all : ∀ n : Fin 256, bits BinOp.or IntKind.u8 ((n.val : Nat) : Int) 32 = ((n.val ||| 32 : Nat) : Int) := by decide +kernel
theorem or32 (c : UInt8) : bits BinOp.or IntKind.u8 ((c.toNat : Nat) : Int) 32 = ((c.toNat ||| 32 : Nat) : Int) := or32_all ⟨c.toNat, c.toNat_lt⟩
/-- may this byte stand in a name? -/
def nameC (c : UInt8) : Bool := decide (c = 45) || (decide (97 ≤ c.toNat ||| 32) && decide (c.toNat ||| 32 ≤ 122))
def nameF (l : List UInt8) : Bool := decide (l ≠ []) && l.all nameC
theorem str_at (s : ByteArray) (k : Nat) (h : k < s.size) : s.data.toList[k]? = some s[k] := by
  have hk : k < s.data.toList.length := by simpa using h
  rw [List.getElem?_eq_getElem hk]
  rfl
theorem all_take {p : UInt8 → Bool} {l : List UInt8} {k : Nat} {c : UInt8} (h : l[k]? = some c) : (l.take (k + 1)).all p = ((l.take k).all p && p c) := by
  rw [List.take_add_one, h, List.all_append]
  simp
theorem all_no {p : UInt8 → Bool} {l : List UInt8} {k : Nat} {c : UInt8} (h : l[k]? = some c) (hp : p c = false) : l.all p = false := by
  cases hl : l.all p
  · rfl
  · rw [List.all_eq_true] at hl
    rw [hl c (List.mem_of_getElem? h)] at hp
    cases hp
set_option maxHeartbeats 1000000 in
theorem isName_any (s : ByteArray) (w : World) (hs : s.size ≤ 4611686018427387904) : Calls Tryd.prog 39 #[.string s] w fun e w' => e = .returned (.bool (nameF s.data.toList)) ∧ w = w' := by
  have HL := Lib.hid (show s.data.toList.length = s.size by simp)
  go_enter Tryd.func39, Tryd.ntmps39
  go_wp2
  go_loopw [7] (fun i wr => ∃ k : Nat, k ≤ s.size ∧ i = .int .i64 k ∧ RowKit.Hid ((s.data.toList.take k).all nameC = true) ∧ wr = w) (fun i _ => s.size - (RowKit.intOf i).toNat)
  case atStart => exact ⟨0, by omega, rfl, by simp [RowKit.Hid], rfl⟩
  case round =>
    obtain ⟨k, hk, rfl, HA, rfl⟩ := hrel
    by_cases hlt : k < s.size
    · have hki : (k : Int) < s.size := by omega
      obtain ⟨c, hc⟩ : ∃ c, c = s[k] := ⟨_, rfl⟩
      have HC := Lib.hid (show s.data.toList[k]? = some c by rw [hc]; exact str_at s k hlt)
      cases h45 : (((s[k].toNat : Nat) : Int) == 45)
      · have hn45 : (((s[k].toNat : Nat) : Int) != 45) = true := by unfold bne; rw [h45]; rfl
        by_cases hlo' : ((((s[k].toNat ||| 32) : Nat) : Int) < 97)
        · have HN := Lib.hid (show nameC c = false by
            have hne : ¬ c = 45 := fun e => by
              rw [hc] at e
              rw [e] at h45
              exact absurd h45 (by decide)
            unfold nameC
            rw [decide_eq_false hne, hc, decide_eq_false (by omega)]
            rfl)
          have HF := Lib.hid (all_no HC.out HN.out)
          have hlo : decide ((bits BinOp.or IntKind.u8 ((s[k].toNat : Nat) : Int) 32) < 97) = true := by rw [or32]; exact decide_eq_true hlo'
          clear hc h45 hlo'
          go_wp2
          go_ret
          exact ⟨by unfold nameF; rw [HF.out, Bool.and_false]; rfl, rfl⟩
        · by_cases hhi' : ((((s[k].toNat ||| 32) : Nat) : Int) > 122)
          · have HN := Lib.hid (show nameC c = false by
              have hne : ¬ c = 45 := fun e => by
                rw [hc] at e
                rw [e] at h45
                exact absurd h45 (by decide)
              unfold nameC
              rw [decide_eq_false hne, hc, decide_eq_false (p := (s[k].toNat ||| 32) ≤ 122) (by omega), Bool.and_false]
              rfl)
            have HF := Lib.hid (all_no HC.out HN.out)
            have hlo : decide ((bits BinOp.or IntKind.u8 ((s[k].toNat : Nat) : Int) 32) < 97) = false := by rw [or32]; exact decide_eq_false hlo'
            have hhi : decide (122 < (bits BinOp.or IntKind.u8 ((s[k].toNat : Nat) : Int) 32)) = true := by rw [or32]; exact decide_eq_true hhi'
            clear hc h45 hlo' hhi'
            go_wp2
            go_ret
            exact ⟨by unfold nameF; rw [HF.out, Bool.and_false]; rfl, rfl⟩
          · have HN := Lib.hid (show nameC c = true by
              unfold nameC
              rw [hc, decide_eq_true (p := 97 ≤ (s[k].toNat ||| 32)) (by omega), decide_eq_true (p := (s[k].toNat ||| 32) ≤ 122) (by omega)]
              simp)
            have HA2 := Lib.hid (show (s.data.toList.take (k + 1)).all nameC = true by rw [all_take HC.out, HA.out, HN.out]; rfl)
            have hlo : decide ((bits BinOp.or IntKind.u8 ((s[k].toNat : Nat) : Int) 32) < 97) = false := by rw [or32]; exact decide_eq_false hlo'
            have hhi : decide (122 < (bits BinOp.or IntKind.u8 ((s[k].toNat : Nat) : Int) 32)) = false := by rw [or32]; exact decide_eq_false hhi'
            clear hc h45 hlo' hhi'
            go_wp2
            go_roundw
            case rel => exact ⟨k + 1, by omega, by go_num, HA2.out, by first | rfl | trivial⟩
            case measure => (simp [RowKit.intOf] <;> omega)
      · have hn45 : (((s[k].toNat : Nat) : Int) != 45) = false := by unfold bne; rw [h45]; rfl
        have HN := Lib.hid (show nameC c = true by
          have he : c = 45 := by
            rw [hc]
            exact UInt8.toNat_inj.1 (by have h := beq_iff_eq.1 h45; have h10 : (45 : UInt8).toNat = 45 := rfl; omega)
          unfold nameC
          rw [decide_eq_true he]
          rfl)
        have HA2 := Lib.hid (show (s.data.toList.take (k + 1)).all nameC = true by rw [all_take HC.out, HA.out, HN.out]; rfl)
        clear hc h45
        go_wp2
        all_goals
          go_roundw
          case rel => exact ⟨k + 1, by omega, by go_num, HA2.out, by first | rfl | trivial⟩
          case measure => (simp [RowKit.intOf] <;> omega)
    · have hki : ¬ (k : Int) < s.size := by omega
      have HF := Lib.hid (show s.data.toList.all nameC = true by
        have h := HA.out
        rwa [List.take_of_length_le (by rw [HL.out]; omega)] at h)
      cases h0 : s.toList.isEmpty
      · have HE := Lib.hid (show nameF s.data.toList = true by
          rw [Lib.toList_data] at h0
          unfold nameF
          rw [decide_eq_true (by simpa using h0), HF.out]
          rfl)
        go_wp2
        go_ret
        exact ⟨by rw [HE.out]; rfl, by first | rfl | trivial⟩
      · have HE := Lib.hid (show nameF s.data.toList = false by
          rw [Lib.toList_data] at h0
          unfold nameF
          rw [decide_eq_false (by simpa using h0)]
          rfl)
        go_wp2
        go_ret
        exact ⟨by rw [HE.out]; rfl, by first | rfl | trivial⟩

/-- the number of a row of digits -/
def digN (n : Nat) : List UInt8 → Nat
  | [] => n
  | c :: l => digN (n * 10 + (c.toNat - 48)) l
def digC (c : UInt8) : Bool := decide (48 ≤ c.toNat) && decide (c.toNat ≤ 57)
def digF (l : List UInt8) : Option Nat := if 1 ≤ l.length ∧ l.length ≤ 6 ∧ l.all digC = true then some (digN 0 l) else none
theorem digN_snoc (l : List UInt8) (c : UInt8) : ∀ n, digN n (l ++ [c]) = digN n l * 10 + (c.toNat - 48) := by
  induction l with
  | nil => intro n; rfl
  | cons a l ih => intro n; exact ih _
theorem digN_take {l : List UInt8} {k : Nat} {c : UInt8} (h : l[k]? = some c) : digN 0 (l.take (k + 1)) = digN 0 (l.take k) * 10 + (c.toNat - 48) := by
  rw [List.take_add_one, h]
  exact digN_snoc _ _ 0
theorem digN_le (l : List UInt8) (h : l.all digC = true) : digN 0 l < 10 ^ l.length := by
  have hh : ∀ (l : List UInt8) n, l.all digC = true → digN n l < (n + 1) * 10 ^ l.length := by
    intro l
    induction l with
    | nil => intro n _; show n < (n + 1) * 1; omega
    | cons a l ih =>
      intro n h
      rw [List.all_cons, Bool.and_eq_true] at h
      have h1 := h.1
      unfold digC at h1
      rw [Bool.and_eq_true, decide_eq_true_eq, decide_eq_true_eq] at h1
      have h2 := ih (n * 10 + (a.toNat - 48)) h.2
      have h3 : (n * 10 + (a.toNat - 48) + 1) * 10 ^ l.length ≤ ((n + 1) * 10) * 10 ^ l.length := Nat.mul_le_mul_right _ (by omega)
      show digN (n * 10 + (a.toNat - 48)) l < (n + 1) * 10 ^ (l.length + 1)
      rw [Nat.pow_succ, Nat.mul_comm (10 ^ l.length) 10, ← Nat.mul_assoc]
      omega
  have := hh l 0 h
  omega
def digPost (l : List UInt8) (e : Ending) : Prop := e = .returned (.tuple #[.int .i64 ((digF l).getD 0 : Nat), .bool (digF l).isSome])
set_option maxHeartbeats 1000000 in
theorem digits_any (s : ByteArray) (w : World) (hs : s.size ≤ 4611686018427387904) : Calls Tryd.prog 42 #[.string s] w fun e w' => digPost s.data.toList e ∧ w = w' := by
  have HL := Lib.hid (show s.data.toList.length = s.size by simp)
  by_cases h1 : (s.size : Int) < 1
  · have HF := Lib.hid (show digF s.data.toList = none by unfold digF; rw [if_neg (by rw [HL.out]; omega)])
    have hg := decide_eq_true h1
    clear h1
    go_enter Tryd.func42, Tryd.ntmps42
    go_wp2
    go_ret2
    exact ⟨by unfold digPost; rw [HF.out]; rfl, by first | rfl | trivial⟩
  by_cases h6 : (6 : Int) < (s.size : Int)
  · have HF := Lib.hid (show digF s.data.toList = none by unfold digF; rw [if_neg (by rw [HL.out]; omega)])
    have hg := decide_eq_false h1
    have hg6 := decide_eq_true h6
    clear h1 h6
    go_enter Tryd.func42, Tryd.ntmps42
    go_wp2
    go_ret2
    exact ⟨by unfold digPost; rw [HF.out]; rfl, by first | rfl | trivial⟩
  have hg := decide_eq_false h1
  have hg6 := decide_eq_false h6
  have hb6 : s.size ≤ 6 := by omega
  have hb1 : 1 ≤ s.size := by omega
  clear h1 h6
  go_enter Tryd.func42, Tryd.ntmps42
  go_wp2
  go_loopw [4, 16] (fun n i wr => ∃ (k m : Nat), k ≤ s.size ∧ i = .int .i64 k ∧ n = .int .i64 m ∧ m ≤ 1000000 ∧ RowKit.Hid (m = digN 0 (s.data.toList.take k) ∧ (s.data.toList.take k).all digC = true) ∧ wr = w) (fun n i _ => s.size - (RowKit.intOf i).toNat)
  case atStart => exact ⟨0, 0, by omega, rfl, rfl, by omega, ⟨rfl, rfl⟩, rfl⟩
  case round =>
    obtain ⟨k, m, hk, rfl, rfl, hm, HA, rfl⟩ := hrel
    by_cases hlt : k < s.size
    · have hki : (k : Int) < s.size := by omega
      obtain ⟨c, hc⟩ : ∃ c, c = s[k] := ⟨_, rfl⟩
      have HC := Lib.hid (show s.data.toList[k]? = some c by rw [hc]; exact str_at s k hlt)
      by_cases hlo' : (((s[k].toNat : Nat) : Int) < 48)
      · have HN := Lib.hid (show digC c = false by
          unfold digC
          rw [hc, decide_eq_false (by omega)]
          rfl)
        have HF := Lib.hid (show digF s.data.toList = none by
          unfold digF
          rw [if_neg (by rw [all_no HC.out HN.out]; simp)])
        have hlo := decide_eq_true hlo'
        clear hc hlo'
        go_wp2
        go_ret2
        exact ⟨by unfold digPost; rw [HF.out]; rfl, by first | rfl | trivial⟩
      · by_cases hhi' : ((57 : Int) < ((s[k].toNat : Nat) : Int))
        · have HN := Lib.hid (show digC c = false by
            unfold digC
            rw [hc, decide_eq_false (p := s[k].toNat ≤ 57) (by omega), Bool.and_false])
          have HF := Lib.hid (show digF s.data.toList = none by
            unfold digF
            rw [if_neg (by rw [all_no HC.out HN.out]; simp)])
          have hlo := decide_eq_false hlo'
          have hhi := decide_eq_true hhi'
          clear hc hlo' hhi'
          go_wp2
          go_ret2
          exact ⟨by unfold digPost; rw [HF.out]; rfl, by first | rfl | trivial⟩
        · have HN := Lib.hid (show digC c = true by
            unfold digC
            rw [hc, decide_eq_true (p := 48 ≤ s[k].toNat) (by omega), decide_eq_true (p := s[k].toNat ≤ 57) (by omega)]
            rfl)
          have HA2 := Lib.hid (show (s.data.toList.take (k + 1)).all digC = true by rw [all_take HC.out, HA.out.2, HN.out]; rfl)
          have HV := Lib.hid (show m * 10 + (s[k].toNat - 48) = digN 0 (s.data.toList.take (k + 1)) by rw [digN_take HC.out, ← HA.out.1, hc])
          have HB := Lib.hid (show m * 10 + (s[k].toNat - 48) ≤ 1000000 by
            have h1 := digN_le _ HA2.out
            rw [← HV.out] at h1
            have h2 : (s.data.toList.take (k + 1)).length ≤ 6 := by rw [List.length_take, HL.out]; omega
            have h3 : 10 ^ (s.data.toList.take (k + 1)).length ≤ 10 ^ 6 := Nat.pow_le_pow_right (by omega) h2
            have h4 : 10 ^ 6 = 1000000 := rfl
            omega)
          have hlo := decide_eq_false hlo'
          have hhi := decide_eq_false hhi'
          have h48 : 48 ≤ s[k].toNat := by omega
          have h57 : s[k].toNat ≤ 57 := by omega
          clear hc hlo' hhi'
          go_wp2
          go_roundw
          case rel => exact ⟨k + 1, m * 10 + (s[k].toNat - 48), by omega, by go_num, by go_num, HB.out, ⟨HV.out, HA2.out⟩, by first | rfl | trivial⟩
          case measure => (simp [RowKit.intOf] <;> omega)
    · have hki : ¬ (k : Int) < s.size := by omega
      have HF := Lib.hid (show digF s.data.toList = some m by
        have h := HA.out
        rw [List.take_of_length_le (by rw [HL.out]; omega)] at h
        unfold digF
        rw [if_pos ⟨by rw [HL.out]; omega, by rw [HL.out]; omega, h.2⟩, h.1])
      go_wp2
      go_ret2
      exact ⟨by unfold digPost; rw [HF.out]; rfl, by first | rfl | trivial⟩
end Go.Proofs.YtphnplpgeoleeaaDoor
