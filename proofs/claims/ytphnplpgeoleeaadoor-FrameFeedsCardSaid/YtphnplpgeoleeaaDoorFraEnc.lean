/- The reference's Encode, and FrameEncodes' walk. -/
import Derived.Test.YtphnplpgeoleeaaDoorFraS
import Derived.Test.YtphnplpgeoleeaaDoorShow
namespace Go.Proofs.YtphnplpgeoleeaaDoor
open Go.RowKit Go.Lib Go.Shelf
set_option maxRecDepth 100000
set_option linter.unusedVariables false
set_option linter.unusedSectionVars false

theorem head_bytes2 (n : Nat) : ((⟨#[67, 111, 110, 116, 101, 110, 116, 45, 76, 101, 110, 103, 116, 104, 58, 32]⟩ : ByteArray) ++ bs (Lib.decDigits n) ++ (⟨#[13, 10, 13, 10]⟩ : ByteArray)).data.toList = headF n := by
  simp [headF, sizeName, nl2, bs]
theorem refEncode_big (v : Value) (l : List UInt8) (w : World) (h : ArgB w v l) (hl : 65536 < l.length) : Calls Tryd.prog 21 #[v] w fun e w' => e = .returned (.tuple #[.slice none 0 0, .int .i64 31]) ∧ w = w' := by
  obtain ⟨A, c, rfl, hc⟩ := h.shape
  have hg : decide ((65536 : Int) < (l.length : Int)) = true := decide_eq_true (by omega)
  clear h hl
  go_enter Tryd.func21, Tryd.ntmps21
  go_wp2
  go_ret2
  exact ⟨rfl, by first | rfl | trivial⟩
set_option maxHeartbeats 1000000 in
theorem refEncode_any (v : Value) (l : List UInt8) (w : World) (h : ArgB w v l) (hl : l.length ≤ 65536) :
    Calls Tryd.prog 21 #[v] w fun e w' => ∃ v', e = .returned (.tuple #[v', .int .i64 0]) ∧ RowKit.Hid (ArgB w' v' (encF l)) ∧ Below w.heap.size w w' := by
  have HA := Lib.hid h
  obtain ⟨A, c, rfl, hc⟩ := h.shape
  have hg : decide ((65536 : Int) < (l.length : Int)) = false := decide_eq_false (by omega)
  have HIT := Lib.hid (show ∀ w, Calls Tryd.prog 24 #[.int .i64 (l.length : Nat)] w fun e w' => e = .returned (.string (bs (Lib.decDigits l.length))) ∧ Below w.heap.size w w' from fun w => show_any l.length w (by omega))
  have hdl := (decDigits_len 5 l.length (by decide) (by have : 10 ^ 5 = 100000 := rfl; omega)).1
  obtain ⟨ds, hds⟩ : ∃ ds, ds = Lib.decDigits l.length := ⟨_, rfl⟩
  rw [← hds] at HIT hdl
  have HDS := Lib.hid hds
  have HBS : (bs ds).size = ds.length := bs_size ds
  obtain ⟨n, hn⟩ : ∃ n, n = l.length := ⟨_, rfl⟩
  rw [← hn] at HIT hl hc hg HDS HA ⊢
  have HN := Lib.hid hn
  have HCV := Lib.hid (fun (W : World) (hW : Below w.heap.size w W) (ty : TypeId) => run_append_conv' W ((⟨#[67, 111, 110, 116, 101, 110, 116, 45, 76, 101, 110, 103, 116, 104, 58, 32]⟩ : ByteArray) ++ bs ds ++ (⟨#[13, 10, 13, 10]⟩ : ByteArray)) (.slice A n c) l ty (argB_below HA.out hW) (by simp [ByteArray.size_append]; have : (⟨#[67, 111, 110, 116, 101, 110, 116, 45, 76, 101, 110, 103, 116, 104, 58, 32]⟩ : ByteArray).size = 16 := rfl; have : (⟨#[13, 10, 13, 10]⟩ : ByteArray).size = 4 := rfl; omega))
  clear h hds hn
  go_enter Tryd.func21, Tryd.ntmps21
  go_wp2_with (go_at_call 24; with_reducible (refine (HIT.out _).mono ?_); rintro e w1 ⟨rfl, hb1⟩; have HB1 := Lib.hid hb1; clear hb1)
  obtain ⟨z, C, W2, v', w2, hcv, hap, ha2, hb2⟩ := HCV.out w1 HB1.out 27
  rw [hcv]
  have HAP := Lib.hid hap
  have HA2 := Lib.hid ha2
  have HB2 := Lib.hid hb2
  clear hcv hap ha2 hb2
  go_wp2_with (at_builtin; refine wpList_append_run _ rfl _ _ 27 27 rfl _ _ rfl rfl v' w2 HAP.out ?_)
  go_ret2
  refine ⟨_, rfl, ?_, HB1.out.trans (HB2.out.mono HB1.out.size)⟩
  have h := HA2.out
  rw [HDS.out, head_bytes2, HN.out] at h
  exact h
/-- what Encode answers. -/
def encR (l : List UInt8) : List UInt8 × Nat := if 65536 < l.length then ([], 31) else (encF l, 0)
theorem encR_len (l : List UInt8) : (encR l).1.length ≤ 65600 := by
  unfold encR
  split
  · simp
  · have h := (decDigits_len 5 l.length (by decide) (by have : 10 ^ 5 = 100000 := rfl; omega)).1
    simp only [encF, headF, List.length_append]
    have h1 : sizeName.length = 16 := rfl
    have h2 : nl2.length = 4 := rfl
    omega
theorem encode_all (v : Value) (l : List UInt8) (w : World) (h : ArgB w v l) (hP : Pow w) :
    Calls Tryd.prog 20 #[v] w fun e w' => ∃ v', e = .returned (.tuple #[v', .int .i64 ((encR l).2 : Nat)]) ∧ RowKit.Hid (ArgB w' v' (encR l).1) ∧ Below w.heap.size w w' := by
  unfold encR
  by_cases hl : 65536 < l.length
  · rw [if_pos hl]
    exact (encode_big v l w h hl).mono fun e w' ⟨h1, h2⟩ => ⟨_, h1, by subst h2; exact ⟨Rd.nil _ _ _ _ _, .inl rfl⟩, by subst h2; exact Below.refl _ _⟩
  · rw [if_neg hl]
    exact encode_any v l w h (by omega) hP
theorem refEncode_all (v : Value) (l : List UInt8) (w : World) (h : ArgB w v l) :
    Calls Tryd.prog 21 #[v] w fun e w' => ∃ v', e = .returned (.tuple #[v', .int .i64 ((encR l).2 : Nat)]) ∧ RowKit.Hid (ArgB w' v' (encR l).1) ∧ Below w.heap.size w w' := by
  unfold encR
  by_cases hl : 65536 < l.length
  · rw [if_pos hl]
    exact (refEncode_big v l w h hl).mono fun e w' ⟨h1, h2⟩ => ⟨_, h1, by subst h2; exact ⟨Rd.nil _ _ _ _ _, .inl rfl⟩, by subst h2; exact Below.refl _ _⟩
  · rw [if_neg hl]
    exact refEncode_any v l w h (by omega)
set_option maxHeartbeats 2000000 in
theorem frameEncodes_walk (v0 : Value) (l0 : List UInt8) (w : World) (h0' : ArgBS w v0 l0) (hT : Pow w) (hM : MaxL w) : Calls Tryd.prog 4 #[v0] w (TruePost w) := by
  have HAL := Lib.hid (alive_any w hT hM)
  have HT := Lib.hid hT
  obtain ⟨h0, hs0⟩ := h0'
  have H0 := Lib.hid h0
  obtain ⟨A0, c0, rfl, hc0⟩ := h0.shape
  clear h0 hT hM
  go_enter Tryd.func4, Tryd.ntmps4
  go_wp2_with fail
  refine HAL.out.mono ?_
  rintro e w1 ⟨rfl, hb1⟩
  have HB1 := Lib.hid hb1
  clear hb1
  by_cases hbig : (200000 : Int) < (l0.length : Int)
  · have hg := decide_eq_true hbig
    go_wp2
    go_ret
    exact ⟨rfl, HB1.out⟩
  · have hg := decide_eq_false hbig
    have hsz : l0.length ≤ 200000 := by omega
    clear hbig
    go_wp2_with fail
    refine (spare_any _ l0 w1 (argB_below H0.out HB1.out) (by omega)).mono ?_
    rintro e w2 ⟨v2, rfl, ho2, hb2⟩
    have HB2 := Lib.hid (HB1.out.trans (hb2.mono HB1.out.size))
    have HAO := Lib.hid (own_argB ho2.out.2)
    obtain ⟨A2, c2, rfl, hc2⟩ := HAO.out.shape
    have hln : (l0 ++ marks).length = l0.length + 8 := by rw [List.length_append]; rfl
    rw [hln] at HAO ho2 hc2
    cases A2 with
    | none =>
      exfalso
      apply ho2.out.1
      rcases HAO.out.2 with h | ⟨a, c, h⟩
      · exact h
      · simp at h
    | some a2 =>
    have HAP := Lib.hid (show ArgB w2 (.slice (some a2) l0.length c2) l0 by
      have h := HAO.out.take l0.length (by omega)
      rwa [List.take_left] at h)
    rw [hln]
    clear hln ho2
    go_wp2_with fail
    refine (encode_all _ l0 w2 HAP.out (pow_below HT.out HB2.out)).mono ?_
    rintro e w3 ⟨v3, rfl, ha3, hb3⟩
    have HB3 := Lib.hid (HB2.out.trans (hb3.mono HB2.out.size))
    have HAO3 := Lib.hid (argB_below HAO.out hb3)
    go_wp2_with fail
    refine (refEncode_all _ l0 w3 (argB_below H0.out HB3.out)).mono ?_
    rintro e w4 ⟨v4, rfl, ha4, hb4⟩
    have HB4 := Lib.hid (HB3.out.trans (hb4.mono HB3.out.size))
    have HAO4 := Lib.hid (argB_below HAO3.out hb4)
    have hX := encR_len l0
    have HSB := Lib.hid (sameBytes_yes v3 v4 (encR l0).1 w4 _ _ (argB_below ha3.out hb4).1 ha4.out.1 (by omega))
    go_wp2_with fail
    refine HSB.out.mono ?_
    rintro e w5 ⟨rfl, q, rfl⟩
    have HB5 := Lib.hid (below_drewN HB4.out q)
    have HAO5 := Lib.hid (argB_below HAO4.out (below_drewN (Below.refl _ _) q))
    go_wp2_with fail
    refine (spare_any _ l0 _ (argB_below H0.out HB5.out) (by omega)).mono ?_
    rintro e w6 ⟨v6, rfl, ho6, hb6⟩
    have HB6 := Lib.hid (HB5.out.trans (hb6.mono HB5.out.size))
    have hln : (l0 ++ marks).length = l0.length + 8 := by rw [List.length_append]; rfl
    have HSC := Lib.hid (sameBytes_yes _ v6 (l0 ++ marks) w6 _ _ (argB_below HAO5.out hb6).1 (own_argB ho6.out.2).1 (by rw [hln]; omega))
    go_wp2_with fail
    refine HSC.out.mono ?_
    rintro e w7 ⟨rfl, q7, rfl⟩
    go_wp2
    go_ret
    exact ⟨rfl, below_drewN HB6.out q7⟩
end Go.Proofs.YtphnplpgeoleeaaDoor
