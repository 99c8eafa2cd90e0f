/- A length's line. Plain maths. -/
import Derived.Test.YtphnplpgeoleeaaDoorFraM
namespace Go.Proofs.YtphnplpgeoleeaaDoor
open Go.RowKit Go.Lib Go.Shelf
set_option maxRecDepth 100000
set_option linter.unusedVariables false
set_option linter.unusedSectionVars false

theorem decDigits_digN : ∀ (k n : Nat), n ≤ k → digN 0 (Lib.decDigits n) = n ∧ (Lib.decDigits n).all digC = true := by
  intro k
  induction k with
  | zero =>
    intro n h
    have : n = 0 := by omega
    subst this
    rw [Lib.decDigits, dif_pos (by decide)]
    exact ⟨by decide, by decide⟩
  | succ k ih =>
    intro n h
    rw [Lib.decDigits]
    by_cases h10 : n < 10
    · rw [dif_pos h10]
      have h1 : (UInt8.ofNat (48 + n)).toNat = 48 + n := by simp; omega
      refine ⟨?_, ?_⟩
      · show 0 * 10 + ((UInt8.ofNat (48 + n)).toNat - 48) = n
        rw [h1]
        omega
      · show (digC (UInt8.ofNat (48 + n)) && true) = true
        unfold digC
        rw [h1, decide_eq_true (by omega), decide_eq_true (by omega)]
        rfl
    · rw [dif_neg h10]
      have h1 : (UInt8.ofNat (48 + n % 10)).toNat = 48 + n % 10 := by simp; omega
      obtain ⟨i1, i2⟩ := ih (n / 10) (by omega)
      refine ⟨?_, ?_⟩
      · rw [digN_snoc, i1, h1]
        omega
      · rw [List.all_append, i2]
        show (true && (digC (UInt8.ofNat (48 + n % 10)) && true)) = true
        unfold digC
        rw [h1, decide_eq_true (by omega), decide_eq_true (by omega)]
        rfl
theorem decDigits_digF {n : Nat} (hn : n < 1000000) : digF (Lib.decDigits n) = some n := by
  obtain ⟨h1, h2⟩ := decDigits_digN n n (Nat.le_refl _)
  obtain ⟨h3, h4⟩ := decDigits_len 6 n (by decide) hn
  unfold digF
  rw [if_pos ⟨by omega, h3, h2⟩, h1]
theorem digC_range {c : UInt8} (h : digC c = true) : 48 ≤ c.toNat ∧ c.toNat ≤ 57 := by
  unfold digC at h
  rw [Bool.and_eq_true, decide_eq_true_eq, decide_eq_true_eq] at h
  exact h
theorem digs_range {l : List UInt8} (h : l.all digC = true) : ∀ c ∈ l, 48 ≤ c.toNat ∧ c.toNat ≤ 57 := fun c hc => digC_range (List.all_eq_true.1 h c hc)
theorem dig_ne {c : UInt8} (h : 48 ≤ c.toNat ∧ c.toNat ≤ 57) : c ≠ 13 ∧ c ≠ 10 ∧ c ≠ 32 ∧ c ≠ 9 ∧ c ≠ 58 :=
  ⟨by rintro rfl; exact absurd h.1 (by decide), by rintro rfl; exact absurd h.1 (by decide), by rintro rfl; exact absurd h.1 (by decide), by rintro rfl; exact absurd h.1 (by decide), by rintro rfl; exact absurd h.2 (by decide)⟩
/-- a length's line: with a blank or without. -/
def clBig : List UInt8 := [67, 111, 110, 116, 101, 110, 116, 45, 76, 101, 110, 103, 116, 104]
def sizeLine (sp : List UInt8) (n : Nat) : List UInt8 := clBig ++ [58] ++ (sp ++ Lib.decDigits n)
theorem trim_digs (sp ds : List UInt8) (hsp : sp = [] ∨ sp = [32]) (h0 : 0 < ds.length) (hd : ∀ c ∈ ds, 48 ≤ c.toNat ∧ c.toNat ≤ 57) : Lib.trimS (sp ++ ds) [32, 9] = ds := by
  have hno : ∀ c ∈ ds, ([32, 9] : List UInt8).contains c = false := fun c hc => by
    have h := dig_ne (hd c hc)
    simp [h.2.2.1, h.2.2.2.1]
  have hr : Lib.trimRightS (sp ++ ds) [32, 9] = sp ++ ds := by
    rw [Lib.trimRightS_take (sp ++ ds) [32, 9] (sp ++ ds).length (Nat.le_refl _) (fun j b hj hb => by
      have := (List.getElem?_eq_some_iff.1 hb).1
      omega) (fun b _ hb => by
      rw [List.length_append, List.getElem?_append_right (by omega)] at hb
      exact hno b (List.mem_of_getElem? hb)), List.take_length]
  unfold Lib.trimS
  rw [hr, Lib.trimLeftS_drop (sp ++ ds) [32, 9] sp.length (by simp) (fun j b hj hb => by
    rw [List.getElem?_append_left hj] at hb
    rcases hsp with rfl | rfl
    · simp at hj
    · have : j = 0 := by simpa using hj
      subst this
      simp at hb
      subst hb
      rfl) (fun b hb => by
    rw [List.getElem?_append_right (Nat.le_refl _)] at hb
    exact hno b (List.mem_of_getElem? hb)), List.drop_left]
theorem fieldF_size (sp : List UInt8) (n : Nat) (hsp : sp = [] ∨ sp = [32]) (hn : n < 1000000) : fieldF (sizeLine sp n) = some (some n) := by
  have hd := digs_range (decDigits_digN n n (Nat.le_refl _)).2
  have h0 := (decDigits_len 6 n (by decide) hn).2
  have hc : Lib.cut (sizeLine sp n) [58] = (clBig, sp ++ Lib.decDigits n, true) := cut_at (c := 58) (sub' := []) (by decide)
  have hall : (sp ++ Lib.decDigits n).all noLB = true := by
    rw [List.all_eq_true]
    intro c hc
    have hne : c ≠ 13 ∧ c ≠ 10 := by
      rcases List.mem_append.1 hc with h | h
      · rcases hsp with rfl | rfl
        · simp at h
        · simp at h
          subst h
          exact ⟨by decide, by decide⟩
      · exact ⟨(dig_ne (hd c h)).1, (dig_ne (hd c h)).2.1⟩
    unfold noLB
    rw [decide_eq_true hne.1, decide_eq_true hne.2]
    rfl
  unfold fieldF
  rw [hc]
  dsimp only
  rw [if_pos ⟨rfl, by decide, hall⟩, if_pos (by decide), trim_digs sp _ hsp h0 hd, decDigits_digF hn]
theorem sizeLine_ok (sp : List UInt8) (n : Nat) (hsp : sp = [] ∨ sp = [32]) : sizeLine sp n ≠ [] ∧ ∀ c ∈ sizeLine sp n, c ≠ 13 := by
  have hd := digs_range (decDigits_digN n n (Nat.le_refl _)).2
  refine ⟨by simp [sizeLine, clBig], fun c hc => ?_⟩
  unfold sizeLine at hc
  rcases List.mem_append.1 hc with h | h
  · exact (show ∀ c ∈ clBig ++ [58], c ≠ 13 by decide) c h
  · rcases List.mem_append.1 h with h | h
    · rcases hsp with rfl | rfl
      · simp at h
      · simp at h
        subst h
        decide
    · exact (dig_ne (hd c h)).1
/-- a message that is encoded is a head of one line, and its body. -/
theorem encF_head (l : List UInt8) : encF l = headOf [sizeLine [32] l.length] ++ l := by
  simp [encF, headF, headOf, sizeLine, sizeName, clBig, nl2, nl]
theorem enc_ok (l : List UInt8) (hl : l.length ≤ 65536) : okLines [sizeLine [32] l.length] ∧ (headOf [sizeLine [32] l.length]).length ≤ 1024 ∧ bodyF [sizeLine [32] l.length] 0 0 = some (l.length, 1) := by
  refine ⟨fun x hx => ?_, ?_, ?_⟩
  · simp only [List.mem_singleton] at hx
    subst hx
    exact sizeLine_ok _ _ (.inr rfl)
  · have h := (decDigits_len 6 l.length (by decide) (by have : 10 ^ 6 = 1000000 := rfl; omega)).1
    simp only [headOf, sizeLine, List.length_append]
    have h1 : clBig.length = 14 := rfl
    have h2 : nl.length = 2 := rfl
    simp
    omega
  · simp only [bodyF, fieldF_size [32] l.length (.inr rfl) (by omega)]
theorem feedL_enc (l t : List UInt8) (hl : l.length ≤ 65536) : feedL (encF l ++ t) = (l :: (feedL t).1, (feedL t).2) := by
  obtain ⟨h1, h2, h3⟩ := enc_ok l hl
  rw [encF_head]
  exact feedL_msg t h1 (by simp) h2 h3 hl
theorem feedL_enc_front (l : List UInt8) (hl : l.length ≤ 65536) (m : Nat) (hm : m < (encF l).length) : feedL ((encF l).take m) = ([], (encF l).take m, 0) := by
  obtain ⟨h1, h2, h3⟩ := enc_ok l hl
  rw [encF_head] at hm ⊢
  exact feedL_front h1 (by simp) h2 h3 hl m hm
theorem feedL_nil : feedL [] = ([], [], 0) := feedL_stop (l := []) (show measF [] = (0, 0, 0) by decide +kernel) (.inl rfl)
end Go.Proofs.YtphnplpgeoleeaaDoor
