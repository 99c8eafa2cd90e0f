/- strings.ContainsAny(s, "\r\n") at every s. -/
import Derived.Test.YtphnplpgeoleeaaDoorFraD
import Derived.Test.YtphnplpgeoleeaaDoorShelfF
import Derived.Laws.RangeAny
import Derived.Laws.Runes
import Derived.Lib.OthersKept
import Derived.Lib.IndexAny
namespace Go.Proofs.YtphnplpgeoleeaaDoor
open Go.RowKit Go.Lib
set_option maxRecDepth 100000
set_option linter.unusedVariables false

def crlf : ByteArray := ⟨#[13, 10]⟩
theorem noLB_high {c : UInt8} (h : 128 ≤ c.toNat) : noLB c = true := by
  unfold noLB
  rw [decide_eq_true (p := c ≠ 13) (by rintro rfl; exact absurd h (by decide)), decide_eq_true (p := c ≠ 10) (by rintro rfl; exact absurd h (by decide))]
  rfl
theorem decode_wide (s : ByteArray) (pos : Nat) (h : pos < s.size) (ha : 128 ≤ (s[pos]'h).toNat) :
    pos + (Utf8.decode s pos).2 ≤ s.size ∧ Utf8.valid ((Utf8.decode s pos).1 : Nat) = true ∧ ∀ k, k < (Utf8.decode s pos).2 → 128 ≤ (s.get! (pos + k)).toNat := by
  have h0 : 128 ≤ (s.get! (pos + 0)).toNat := by rw [get_at s pos h]; exact ha
  have hn : ¬ (s[pos]'h).toNat < 128 := by omega
  have hb : ∀ k, (s.get! (pos + k)).toNat < 256 := fun k => (s.get! (pos + k)).toNat_lt
  have h1 := hb 1; have h2 := hb 2; have h3 := hb 3
  have key : ∀ d : Nat × Nat, d = Utf8.decode s pos → pos + d.2 ≤ s.size ∧ Utf8.valid (d.1 : Nat) = true ∧ ∀ k, k < d.2 → 128 ≤ (s.get! (pos + k)).toNat := by
    intro d hd
    simp only [Utf8.decode, get_at s pos h, hn, if_false] at hd
    have one : ∀ d : Nat × Nat, d = (Utf8.runeError, 1) → pos + d.2 ≤ s.size ∧ Utf8.valid (d.1 : Nat) = true ∧ ∀ k, k < d.2 → 128 ≤ (s.get! (pos + k)).toNat := by
      rintro d rfl
      refine ⟨h, rfl, fun k hk => ?_⟩
      have : k = 0 := by have : k < 1 := hk; omega
      subst this
      exact h0
    split at hd
    · rename_i hc
      simp only [Bool.and_eq_true, decide_eq_true_eq, beq_iff_eq] at hc
      split at hd
      · subst hd
        refine ⟨?_, ?_, fun k hk => ?_⟩
        · show pos + 2 ≤ s.size; omega
        · simp [Utf8.valid]; omega
        · have hk2 : k < 2 := hk
          rcases (by omega : k = 0 ∨ k = 1) with rfl | rfl
          · exact h0
          · omega
      · exact one d hd
    · split at hd
      · rename_i hc
        simp only [Bool.and_eq_true, decide_eq_true_eq, beq_iff_eq] at hc
        split at hd
        · rename_i hv
          simp only [Bool.and_eq_true, decide_eq_true_eq] at hv
          subst hd
          refine ⟨?_, hv.2, fun k hk => ?_⟩
          · show pos + 3 ≤ s.size; omega
          · have hk2 : k < 3 := hk
            rcases (by omega : k = 0 ∨ k = 1 ∨ k = 2) with rfl | rfl | rfl
            · exact h0
            · omega
            · omega
        · exact one d hd
      · split at hd
        · rename_i hc
          simp only [Bool.and_eq_true, decide_eq_true_eq, beq_iff_eq] at hc
          split at hd
          · rename_i hv
            simp only [Bool.and_eq_true, decide_eq_true_eq] at hv
            subst hd
            refine ⟨?_, hv.2, fun k hk => ?_⟩
            · show pos + 4 ≤ s.size; omega
            · have hk2 : k < 4 := hk
              rcases (by omega : k = 0 ∨ k = 1 ∨ k = 2 ∨ k = 3) with rfl | rfl | rfl | rfl
              · exact h0
              · omega
              · omega
              · omega
          · exact one d hd
        · exact one d hd
  exact key _ rfl
theorem get_list (s : ByteArray) (p : Nat) (h : p < s.size) : s.data.toList[p]? = some (s.get! p) := by
  have h1 := get_at s p h
  rw [Nat.add_zero] at h1
  rw [h1]
  exact str_at s p h
theorem all_take_w (s : ByteArray) (pos : Nat) (hp : (s.data.toList.take pos).all noLB = true) : ∀ n, pos + n ≤ s.size → (∀ k, k < n → 128 ≤ (s.get! (pos + k)).toNat) → (s.data.toList.take (pos + n)).all noLB = true := by
  intro n
  induction n with
  | zero => intro _ _; exact hp
  | succ n ih =>
    intro hn hk
    have h1 := ih (by omega) (fun k hk' => hk k (by omega))
    have h2 := get_list s (pos + n) (by omega)
    show (s.data.toList.take ((pos + n) + 1)).all noLB = true
    rw [all_take h2, h1, noLB_high (hk n (by omega))]
    rfl

theorem validRune_any (r : Int) (w : World) (h128 : 128 ≤ r) (hv : Utf8.valid r = true) : Calls Tryd.prog 87 #[.int .i32 r] w fun e w' => e = .returned (.bool true) ∧ w = w' := by
  rw [validRune_eq] at hv
  have hv' := of_decide_eq_true hv
  clear hv
  by_cases h1 : r < 55296
  · have g0 : decide ((0 : Int) ≤ r) = true := decide_eq_true (by omega)
    have g1 := decide_eq_true h1
    clear hv' h1
    go_enter Tryd.func87, Tryd.ntmps87
    go_wp2
    go_ret
    exact ⟨rfl, by first | rfl | trivial⟩
  · have g0 : decide ((0 : Int) ≤ r) = true := decide_eq_true (by omega)
    have g1 := decide_eq_false h1
    have g2 : decide ((57343 : Int) < r) = true := decide_eq_true (by omega)
    have g3 : decide (r ≤ (1114111 : Int)) = true := decide_eq_true (by omega)
    clear hv' h1
    go_enter Tryd.func87, Tryd.ntmps87
    go_wp2
    go_ret
    exact ⟨rfl, by first | rfl | trivial⟩

set_option maxHeartbeats 1000000 in
theorem idxRune_err (w : World) : Calls Tryd.prog 70 #[.string crlf, .int .i32 65533] w fun e w' => e = .returned (.int .i64 (-1)) ∧ Below w.heap.size w w' := by
  have hsz : crlf.size = 2 := rfl
  go_enter Tryd.func70, Tryd.ntmps70
  go_wp2
  go_loopg [5, 6] 2 (fun g _ _ wx => ∃ i : Nat, i + g = 2 ∧ wx = w.iter crlf i)
  case atStart => exact ⟨0, by omega, rfl⟩
  case round =>
    obtain ⟨i, hig, rfl⟩ := hrel
    cases gk with
    | zero =>
      obtain rfl : i = 2 := by omega
      have hnx := run_next_end (P := Tryd.prog) w crlf 2
      go_wp2
      go_ret
      exact ⟨rfl, (Below.refl _ w).alloc (Nat.le_refl _) _⟩
    | succ g =>
      have hi : i < crlf.size := by rw [hsz]; omega
      have h2 : (crlf[i]'hi).toNat = 13 ∨ (crlf[i]'hi).toNat = 10 := by
        rcases (by omega : i = 0 ∨ i = 1) with rfl | rfl
        · left; rfl
        · right; rfl
      have hnx := fun ty => run_next_ascii (P := Tryd.prog) w crlf i ty hi (by omega)
      obtain ⟨x, hx⟩ : ∃ x : Nat, x = (crlf[i]'hi).toNat := ⟨_, rfl⟩
      rw [← hx] at hnx h2
      have hne : (((x : Nat) : Int) == 65533) = false := by rcases h2 with rfl | rfl <;> rfl
      clear hx h2
      go_wp2
      go_roundg g
      case measure => omega
      case rel => exact ⟨i + 1, by omega, rfl⟩

theorem firstIdx_indexByte_nil (c : UInt8) : Lib.indexByte [] c = -1 := rfl
set_option maxHeartbeats 1000000 in
theorem idxRune_valid (r : Int) (w : World) (h128 : 128 ≤ r) (hne : r ≠ 65533) (hmax : r ≤ 1114111) (hv : Utf8.valid r = true) : Calls Tryd.prog 70 #[.string crlf, .int .i32 r] w fun e w' => e = .returned (.int .i64 (-1)) ∧ Below w.heap.size w w' := by
  obtain ⟨hE2, hE4, hEl⟩ := encode_facts r hv h128
  have HV := Lib.hid hv
  obtain ⟨rs, hrs⟩ : ∃ rs, rs = Utf8.encode r := ⟨_, rfl⟩
  rw [← hrs] at hE2 hE4 hEl
  have HR := Lib.hid hrs
  clear hrs hv
  have g0 : decide ((0 : Int) ≤ r) = true := decide_eq_true (by omega)
  have g1 : decide (r < (128 : Int)) = false := decide_eq_false (by omega)
  have g2 : (r == 65533) = false := beq_eq_false_iff_ne.2 hne
  have hcv : ∀ w, (convert 21 9 (.int .i32 r)).run Tryd.prog w = .ok (.string rs) w := fun w => by
    rw [HR.out]
    exact run_convert_int_string w 21 9 .i32 r (by kernel_rfl) (by kernel_rfl)
  have hsz : crlf.size = 2 := rfl
  have HVR := Lib.hid (validRune_any r w h128 HV.out)
  by_cases h2 : rs.size = 2
  · have hl : 128 ≤ (rs[1]'(by omega)).toNat := by
      have := hEl (by omega)
      simpa [h2] using this
    obtain ⟨x, hx⟩ : ∃ x, x = (rs[1]'(by omega)) := ⟨_, rfl⟩
    have HX := Lib.hid hx
    rw [← hx] at hl
    clear hx hEl
    go_enter Tryd.func70, Tryd.ntmps70
    go_wp2_with (first
      | (go_at_call 87; with_reducible (refine HVR.out.mono ?_); rintro e w' ⟨rfl, rfl⟩))
    go_step3
    go_wp2
    go_loopw [9, 10] (fun i _ wr => i = .int .i64 1 ∧ wr = w) (fun _ _ _ => 0)
    case atStart => exact ⟨rfl, rfl⟩
    case round =>
      obtain ⟨rfl, rfl⟩ := hrel
      go_wp2
      go_step3
      go_wp2
      have hne2 : (((crlf[1]'(by decide)).toNat : Int) != ((rs[1]'(by omega)).toNat : Int)) = true := by
        rw [bne_iff_ne]
        have h10 : (crlf[1]'(by decide)).toNat = 10 := rfl
        have := HX.out
        rw [← this, h10]
        omega
      go_quiet (fail)
      obtain ⟨M, hM⟩ : ∃ M, M = wr.drewN nq := ⟨_, rfl⟩
      have HB := Lib.hid (show Below wr.heap.size wr M by rw [hM]; exact below_drewN (Below.refl _ _) nq)
      have HIB : ∀ q, Calls Tryd.prog 86 #[.string (crlf.extract 2 2), .int .u8 ((rs[1]'(by omega)).toNat : Int)] (M.drewN q) (fun e w'' => e = .returned (.int .i64 (-1)) ∧ ∃ m, w'' = M.drewN m) := fun q =>
        (Any.strings_IndexByte Tryd.lays137 (crlf.extract 2 2) _ (M.drewN q)).mono fun e w'' ⟨he, hw⟩ => ⟨he, q, hw⟩
      have HIB := Lib.hid HIB
      have hw2 : IntKind.i64.wrap 2 = 2 := rfl
      rw [← hM]
      clear hM
      go_wp2
      go_quiet ((go_at_call 86; exact HIB.out _))
      go_wp2
      rw [Exit.noGoto_ret]
      go_wp2
      rw [Exit.noGoto_ret]
      go_ret
      exact ⟨rfl, below_drewN HB.out _⟩
  · go_enter Tryd.func70, Tryd.ntmps70
    go_wp2_with (first
      | (go_at_call 87; with_reducible (refine HVR.out.mono ?_); rintro e w' ⟨rfl, rfl⟩))
    go_step3
    go_wp2
    go_loopw [9, 10] (fun i _ wr => i = .int .i64 ((rs.size : Int) - 1) ∧ wr = w) (fun _ _ _ => 0)
    case atStart => exact ⟨rfl, rfl⟩
    case round =>
      obtain ⟨rfl, rfl⟩ := hrel
      have hlt : decide ((rs.size : Int) - 1 < 2) = false := decide_eq_false (by omega)
      go_wp2
      rw [Exit.noGoto_ret]
      go_ret
      exact ⟨rfl, Below.refl _ _⟩
end Go.Proofs.YtphnplpgeoleeaaDoor
