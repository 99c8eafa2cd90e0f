/- The contract of the lexer's loop over remarks. -/
import Derived.Test.YteialkkpoikelaaLexC
namespace Go.Proofs.Yteialkkpoikelaa
open Go.RowKit Go.Lib
set_option maxRecDepth 100000

theorem pair_of (s : ByteArray) (k : Nat) (h : k + 1 < s.size) : s.data.toList.drop k = s[k] :: s[k + 1] :: s.data.toList.drop (k + 2) ∧ (s.extract k (k + 2)).toList = [s[k], s[k + 1]] := by
  have e := drop_at s k (by omega)
  rw [drop_at s (k + 1) h] at e
  refine ⟨e, ?_⟩
  rw [cut_toL, e]
  simp
/-- what remarkEnd answers of a list whose first byte is byte k, so many remarks being open. -/
def remAns (l : List UInt8) (k d : Nat) : Nat := ((Lx.remN d (l.drop k)).map (k + ·)).getD 0
theorem rem_open (s : ByteArray) (k d : Nat) (h : k + 1 < s.size) (e : (s.extract k (k + 2)).toList = [40, 42]) : remAns s.data.toList k d = remAns s.data.toList (k + 2) (d + 1) := by
  obtain ⟨e1, e2⟩ := pair_of s k h
  rw [e2] at e
  simp only [List.cons.injEq, and_true] at e
  unfold remAns
  rw [e1, e.1, e.2]
  simp only [Lx.remN]
  rw [if_pos (by decide)]
  cases Lx.remN (d + 1) (s.data.toList.drop (k + 2)) <;> simp
  omega
theorem rem_close (s : ByteArray) (k d : Nat) (h : k + 1 < s.size) (e : (s.extract k (k + 2)).toList = [42, 41]) (_hd : d ≠ 0) : remAns s.data.toList k d = if d = 1 then k + 2 else remAns s.data.toList (k + 2) (d - 1) := by
  obtain ⟨e1, e2⟩ := pair_of s k h
  rw [e2] at e
  simp only [List.cons.injEq, and_true] at e
  unfold remAns
  rw [e1, e.1, e.2]
  simp only [Lx.remN]
  rw [if_neg (by decide), if_pos (by decide)]
  split
  · simp
  · cases Lx.remN (d - 1) (s.data.toList.drop (k + 2)) <;> simp
    omega
theorem rem_on (s : ByteArray) (k d : Nat) (h : k + 1 < s.size) (n1 : ¬ (s.extract k (k + 2)).toList = [40, 42]) (n2 : ¬ (s.extract k (k + 2)).toList = [42, 41]) : remAns s.data.toList k d = remAns s.data.toList (k + 1) d := by
  obtain ⟨e1, e2⟩ := pair_of s k h
  rw [e2] at n1 n2
  simp only [List.cons.injEq, and_true] at n1 n2
  unfold remAns
  rw [e1, drop_at s (k + 1) h]
  simp only [Lx.remN]
  rw [if_neg (fun x => n1 ⟨UInt8.toNat_inj.1 x.1, UInt8.toNat_inj.1 x.2⟩), if_neg (fun x => n2 ⟨UInt8.toNat_inj.1 x.1, UInt8.toNat_inj.1 x.2⟩)]
  cases Lx.remN d (s[k + 1] :: s.data.toList.drop (k + 2)) <;> simp
  omega
theorem rem_end (s : ByteArray) (k d : Nat) (h : ¬ k + 1 < s.size) : remAns s.data.toList k d = 0 := by
  unfold remAns
  have hl : (s.data.toList.drop k).length ≤ 1 := by rw [List.length_drop, ← sz]; omega
  rcases e : s.data.toList.drop k with _ | ⟨x, _ | ⟨y, t⟩⟩
  · rfl
  · rfl
  · rw [e] at hl; simp at hl
theorem opens_pair (s : ByteArray) (k : Nat) (h : k + 1 < s.size) (ho : Lx.opens (s.data.toList.drop k) = true) : (s.extract k (k + 2)).toList = [40, 42] := by
  obtain ⟨e1, e2⟩ := pair_of s k h
  rw [e1] at ho
  simp only [Lx.opens, decide_eq_true_eq] at ho
  rw [e2, UInt8.toNat_inj.1 (show s[k].toNat = (40 : UInt8).toNat from ho.1), UInt8.toNat_inj.1 (show s[k + 1].toNat = (42 : UInt8).toNat from ho.2)]
theorem remEnd_any (s : ByteArray) (a : Nat) (h : Lx.opens (s.data.toList.drop a) = true) (ha : a ≤ s.size) (hs : s.size ≤ 9223372036854775800) (w : World) :
    Calls Try.prog 21 #[.string s, .int .i64 a] w fun e w' => e = .returned (.int .i64 (remAns s.data.toList a 0)) ∧ w = w' := by
  go_enter Try.func21, Try.ntmps21
  go_wp2
  go_loop [1, 5] (fun i j => ∃ k d : Nat, a ≤ k ∧ k ≤ s.size ∧ i = .int .i64 k ∧ j = .int .i64 d ∧ d ≤ k ∧ (d = 0 → Lx.opens (s.data.toList.drop k) = true) ∧ remAns s.data.toList k d = remAns s.data.toList a 0) (fun i _ => s.size - (intOf i).toNat)
  case atStart => exact ⟨a, 0, by omega, by omega, rfl, rfl, by omega, fun _ => h, rfl⟩
  case round =>
    obtain ⟨k, d, hak, hk, rfl, rfl, hd, ho, hr⟩ := hrel
    have HO := Lib.hid ho
    have HR := Lib.hid hr
    clear ho hr
    go_wp2
    · have h1 : (k : Int) + 1 < s.size := by assumption
      have h2 : ((s.extract k (k + 2)).toList == [40, 42]) = true := by assumption
      go_round
      case rel => exact ⟨k + 2, d + 1, by omega, by omega, by go_num, by go_num, by omega, fun h => absurd h (by omega), (rem_open s k d (by omega) (by simpa using h2)).symm.trans HR.out⟩
      case measure => simp [intOf]; omega
    · have h1 : (k : Int) + 1 < s.size := by assumption
      have h3 : ((s.extract k (k + 2)).toList == [42, 41]) = true := by assumption
      have h4 : ((d : Int) - 1 == 0) = true := by assumption
      go_ret
      go_light
      have hd1 : d = 1 := by simp at h4; omega
      have := rem_close s k d (by omega) (by simpa using h3) (by omega)
      rw [if_pos hd1] at this
      exact ⟨ret_int (by rw [← HR.out, this]; simp), rfl⟩
    · have h1 : (k : Int) + 1 < s.size := by assumption
      have h2 : ((s.extract k (k + 2)).toList == [40, 42]) = false := by assumption
      have h3 : ((s.extract k (k + 2)).toList == [42, 41]) = true := by assumption
      have h4 : ((d : Int) - 1 == 0) = false := by assumption
      have hd0 : d ≠ 0 := fun x => by rw [opens_pair s k (by omega) (HO.out x)] at h2; simp at h2
      have hd1 : ¬ d = 1 := by simp at h4; omega
      have hc := rem_close s k d (by omega) (by simpa using h3) hd0
      rw [if_neg hd1] at hc
      have HC := Lib.hid hc
      clear hc
      go_round
      case rel => exact ⟨k + 2, d - 1, by omega, by omega, by go_num, by rw [Int.ofNat_sub (by omega)]; rfl, by omega, fun h => absurd h (by omega), HC.out.symm.trans HR.out⟩
      case measure => simp [intOf]; omega
    · have h1 : (k : Int) + 1 < s.size := by assumption
      have h2 : ((s.extract k (k + 2)).toList == [40, 42]) = false := by assumption
      have h4 : ((d : Int) == 0) = true := by assumption
      have hd0 : d = 0 := by simp at h4; omega
      rw [opens_pair s k (by omega) (HO.out hd0)] at h2
      simp at h2
    · have h1 : (k : Int) + 1 < s.size := by assumption
      have h2 : ((s.extract k (k + 2)).toList == [40, 42]) = false := by assumption
      have h3 : ((s.extract k (k + 2)).toList == [42, 41]) = false := by assumption
      have h4 : ((d : Int) == 0) = false := by assumption
      have HC := Lib.hid (rem_on s k d (by omega) (by simpa using h2) (by simpa using h3))
      have hd0 : d ≠ 0 := by simp at h4; omega
      go_round
      case rel => exact ⟨k + 1, d, by omega, by omega, by go_num, rfl, by omega, fun h => absurd h hd0, HC.out.symm.trans HR.out⟩
      case measure => simp [intOf]; omega
    · have h1 : (s.size : Int) ≤ k + 1 := by assumption
      go_ret
      go_light
      exact ⟨ret_int (by rw [← HR.out, rem_end s k d (by omega)]; rfl), rfl⟩
end Go.Proofs.Yteialkkpoikelaa
