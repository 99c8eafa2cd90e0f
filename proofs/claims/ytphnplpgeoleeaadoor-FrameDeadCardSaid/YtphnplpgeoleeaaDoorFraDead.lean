/- FrameDead's walk. -/
import Derived.Test.YtphnplpgeoleeaaDoorFraS
namespace Go.Proofs.YtphnplpgeoleeaaDoor
open Go.RowKit Go.Lib Go.Shelf
set_option maxRecDepth 100000
set_option linter.unusedVariables false
set_option linter.unusedSectionVars false

set_option maxHeartbeats 2000000 in
theorem frameDead_walk (v0 : Value) (l0 : List UInt8) (v1 : Value) (l1 : List UInt8) (w : World) (h0' : ArgBS w v0 l0) (h1' : ArgBS w v1 l1) (hT : Pow w) (hM : MaxL w) : Calls Tryd.prog 7 #[v0, v1] w (TruePost w) := by
  have HAL := Lib.hid (alive_any w hT hM)
  have HM := Lib.hid hM
  have hML := maxL_lt hM
  obtain ⟨h0, hs0⟩ := h0'
  obtain ⟨h1, hs1⟩ := h1'
  have H0 := Lib.hid h0
  have H1 := Lib.hid h1
  obtain ⟨A0, c0, rfl, hc0⟩ := h0.shape
  obtain ⟨A1, c1, rfl, hc1⟩ := h1.shape
  clear h0 h1 hT hM
  go_enter Tryd.func7, Tryd.ntmps7
  go_wp2_with fail
  refine HAL.out.mono ?_
  rintro e w1 ⟨rfl, hb1⟩
  have HB1 := Lib.hid hb1
  clear hb1
  by_cases hbig : (200000 : Int) < (l0.length : Int) + l1.length
  · have hg := decide_eq_true hbig
    go_wp2
    go_ret
    exact ⟨rfl, HB1.out⟩
  · have hg := decide_eq_false hbig
    have hsz : l0.length + l1.length ≤ 200000 := by omega
    clear hbig
    go_wp2_with fail
    refine (new_dec w1).mono ?_
    rintro e w2 ⟨rfl, hd2, hb2⟩
    have HB2 := Lib.hid (HB1.out.trans (hb2.out.mono HB1.out.size))
    go_wp2_with fail
    refine (copyBytes_any _ l0 w2 (argB_below H0.out HB2.out) (by omega)).mono ?_
    rintro e w3 ⟨v3, rfl, ho3, hb3⟩
    have HB3 := Lib.hid (HB2.out.trans (hb3.mono HB2.out.size))
    have hb3' := hb2.out.trans (hb3.mono hb2.out.size)
    have HF1 := feed_any w1.heap.size w1.heap.size _ v3 [] l0 0 w3 (hd2.out.keep hb3) hb3'.size (by have := HB1.out.size; omega) (own_argB ho3.out.2) (by rw [List.length_nil]; omega) (maxL_below HM.out HB3.out hML)
    obtain ⟨bs4, r4, e4, h4⟩ : ∃ bs r e, stepF [] 0 l0 = (bs, r, e) := ⟨_, _, _, rfl⟩
    rw [h4] at HF1
    have HE := Lib.hid (show e4 ≠ 0 → r4 = [] ∧ (e4 = 30 ∨ e4 = 31) by
      have h := feedL_err _ l0 (Nat.le_refl _)
      have h5 : feedL l0 = (bs4, r4, e4) := h4
      rw [h5] at h
      exact h)
    clear h4
    go_wp2_with fail
    refine HF1.mono ?_
    rintro e w4 ⟨A4, c4, hv4, rfl, HQ4⟩
    have HB4 := Lib.hid (HB3.out.trans (HQ4.out.2.2.2.1.mono (by have := HB1.out.size; omega)))
    have hB4s : w1.heap.size ≤ w4.heap.size := Nat.le_trans hb3'.size HQ4.out.2.2.2.1.size
    clear HF1 hb3 hb3'
    by_cases he : e4 = 0
    · subst he
      go_wp2_with fail
      refine (dead_any w4 _ _ _ HQ4.out.1.2.1).mono ?_
      rintro e w5 ⟨rfl, rfl⟩
      go_wp2
      go_ret
      exact ⟨rfl, HB4.out⟩
    · obtain ⟨hr4, he4⟩ := HE.out he
      subst hr4
      have hez : ((e4 : Int) == 0) = false := beq_eq_false_iff_ne.2 (by omega)
      have hne : ((e4 : Int) != 0) = true := by rw [bne_iff_ne]; omega
      have hEE := Lib.hid he
      clear he
      go_wp2_with fail
      refine (copyBytes_any _ l1 w4 (argB_below H1.out HB4.out) (by omega)).mono ?_
      rintro e w5 ⟨v5, rfl, ho5, hb5⟩
      have HB5 := Lib.hid (HB4.out.trans (hb5.mono HB4.out.size))
      have HF2 := feed_any w1.heap.size w1.heap.size _ v5 [] l1 e4 w5 (HQ4.out.1.keep hb5) (by have := hb5.size; omega) (by have := HB1.out.size; omega) (own_argB ho5.out.2) (by rw [List.length_nil]; omega) (maxL_below HM.out HB5.out hML)
      rw [show stepF [] e4 l1 = ([], [], e4) by unfold stepF; rw [if_pos hEE.out]] at HF2
      go_wp2_with fail
      refine HF2.mono ?_
      rintro e w6 ⟨A6, c6, hv6, rfl, HQ6⟩
      have HB6 := Lib.hid (HB5.out.trans (HQ6.out.2.2.2.1.mono (by have := HB1.out.size; omega)))
      obtain ⟨A7, c7, hv7⟩ := HQ6.out.1.form
      subst hv7
      have HDD := Lib.hid HQ6.out.1.2.1
      clear HF2 hb5
      go_wp2_with fail
      refine (dead_any w6 _ _ _ HDD.out).mono ?_
      rintro e w7 ⟨rfl, rfl⟩
      rcases he4 with rfl | rfl
      all_goals
        go_wp2_with fail
        refine (held_any w6 _ _ _ _ _ HDD.out).mono ?_
        rintro e w7 ⟨rfl, rfl⟩
        go_wp2
        go_ret
        exact ⟨rfl, HB6.out⟩
end Go.Proofs.YtphnplpgeoleeaaDoor
