/- FrameRound's walk. -/
import Derived.Test.YtphnplpgeoleeaaDoorFraGr
namespace Go.Proofs.YtphnplpgeoleeaaDoor
open Go.RowKit Go.Lib Go.Shelf
set_option maxRecDepth 100000
set_option linter.unusedVariables false
set_option linter.unusedSectionVars false

theorem ArgR.take {w : World} {A : Option Addr} {n c : Nat} {ls : List (List UInt8)} (h : ArgR w (.slice A n c) ls) (m : Nat) (hm : m ≤ n) : ArgR w (.slice A m c) (ls.take m) := by
  obtain ⟨vs, ⟨hl, A', c', e, hc, hr⟩, h2, h3⟩ := h
  simp only [Value.slice.injEq] at e
  obtain ⟨rfl, rfl, rfl⟩ := e
  have hlm : (ls.take m).length = m := by rw [List.length_take]; omega
  refine ⟨vs.take m, ⟨by rw [List.length_take, hlm]; omega, A, c, by rw [hlm], by omega, fun hp => ?_⟩, ?_, fun i x hi => ?_⟩
  · rw [hlm] at hp
    obtain ⟨g, o, rfl, hg, hr⟩ := hr (by omega)
    refine ⟨g, o, rfl, hg, fun j hj => ?_⟩
    rw [hlm] at hj
    rw [hr j (by omega), List.getElem?_take, if_pos (by omega)]
  · rcases h2 with h2 | ⟨a, k, h2⟩
    · simp only [Value.slice.injEq] at h2
      obtain ⟨rfl, h0, rfl⟩ := h2
      have : m = 0 := by omega
      subst this
      exact .inl rfl
    · simp only [Value.slice.injEq] at h2
      obtain ⟨rfl, -, rfl⟩ := h2
      exact .inr ⟨a, c, by rw [hlm]⟩
  · have him : i < m := by
      have := (List.getElem?_eq_some_iff.1 hi).1
      omega
    rw [List.getElem?_take, if_pos him] at hi
    obtain ⟨u, hu, ha⟩ := h3 i x hi
    exact ⟨u, by rw [List.getElem?_take, if_pos him]; exact hu, ha⟩
/-- what is told of a front within the last message. -/
theorem encs_front {ls : List (List UInt8)} {p q : Nat} (hl : ls.length = p + 1) (hs : ∀ x ∈ ls, x.length ≤ 65536) (h1 : (encs (ls.take p)).length ≤ q) (h2 : q < (encs ls).length) : ∃ r, feedL ((encs ls).take q) = (ls.take p, r, 0) ∧ r.length = q - (encs (ls.take p)).length := by
  have hx : ls[p]? = some (ls[p]'(by omega)) := List.getElem?_eq_getElem _
  have he : encs ls = encs (ls.take p) ++ encF (ls[p]'(by omega)) := by
    have h := encs_take ls p _ hx
    rwa [List.take_of_length_le (by omega)] at h
  have hxs := hs (ls[p]'(by omega)) (List.getElem_mem _)
  rw [he, List.length_append] at h2
  have ht : (encs ls).take q = encs (ls.take p) ++ (encF (ls[p]'(by omega))).take (q - (encs (ls.take p)).length) := by
    rw [he, List.take_append, List.take_of_length_le h1]
  rw [ht, feedL_encs _ _ (fun y hy => hs y (List.mem_of_mem_take hy)), feedL_enc_front _ hxs _ (by omega)]
  exact ⟨_, by rw [List.append_nil], by rw [List.length_take]; omega⟩
set_option maxHeartbeats 4000000 in
theorem frameRound_walk (v0 : Value) (ls : List (List UInt8)) (z1 : Int) (w : World) (h0 : ArgRS w v0 ls) (hz : (Lit.int .i64 z1).wf = true) (hT : Pow w) (hM : MaxL w) : Calls Tryd.prog 6 #[v0, .int .i64 z1] w (TruePost w) := by
  have HAL := Lib.hid (alive_any w hT hM)
  have HT := Lib.hid hT
  have HM := Lib.hid hM
  have hML := maxL_lt hM
  have H0 := Lib.hid h0.1
  have HRS := Lib.hid h0
  obtain ⟨vs, ⟨hl1, A1, c1, rfl, hc1, h1⟩, -, he1⟩ := h0.1
  obtain ⟨n, hn⟩ : ∃ n, n = ls.length := ⟨_, rfl⟩
  rw [← hn] at h1 hc1 H0 HRS ⊢
  have HN := Lib.hid hn
  have R1 := Lib.hid h1
  have E1 := Lib.hid he1
  have hzb : -9223372036854775808 ≤ z1 ∧ z1 ≤ 9223372036854775807 := bounds_i64 hz
  clear hn h1 hl1 he1 hT hM h0 hz
  go_enter Tryd.func6, Tryd.ntmps6
  go_wp2_with fail
  refine HAL.out.mono ?_
  rintro e w1 ⟨rfl, hb1⟩
  have HB1 := Lib.hid hb1
  clear hb1
  go_wp2_with fail
  refine (great_any _ ls w1 ⟨HRS.out.1.below HB1.out, HRS.out.2⟩).mono ?_
  rintro e w2 ⟨b, rfl, rfl, hgr⟩
  cases b with
  | true =>
    go_wp2
    go_ret
    exact ⟨rfl, HB1.out⟩
  | false =>
  obtain ⟨h200, hsum⟩ := hgr rfl
  have hn200 : n ≤ 200 := by have := HN.out; omega
  obtain ⟨i0, hi, hz0, hz1, hz2⟩ := info_parts infoByte
  have HO0 := Lib.hid (World.ownsRow_lit (e := 5) (size := 1) w1 #[] 0 (Nat.le_refl _) (by unfold maxLen; omega) rfl)
  have HB2 := Lib.hid (HB1.out.alloc HB1.out.size (.cells #[] 5))
  have hws : w.heap.size ≤ w1.heap.size := HB1.out.size
  clear hgr
  go_wp2
  go_loopw [5, 6, 7] (fun u lv iv wr => ∃ (k m : Nat), lv = .int .i64 m ∧ iv = .int .i64 k ∧ k ≤ n ∧ RowKit.Hid (wr.ownsRow w.heap.size 5 1 u (encs (ls.take k)).length (bytesV (encs (ls.take k)))) ∧ RowKit.Hid (∀ x ∈ ls.take k, x.length ≤ 65536) ∧ RowKit.Hid (m = (encs (ls.take (k - 1))).length) ∧ RowKit.Hid (Below w.heap.size w wr)) (fun _ _ iv _ => n - (RowKit.intOf iv).toNat)
  case atStart => exact ⟨0, 0, rfl, rfl, Nat.zero_le _, own_base HO0.out hws, fun x hx => by simp at hx, by simp [RowKit.Hid, encs], HB2.out⟩
  case round =>
    obtain ⟨k, m, rfl, rfl, hk, HO, HS, HL, HB⟩ := hrel
    have HA := Lib.hid (own_argB HO.out)
    have hel := encs_len (ls.take k) HS.out
    have hsk := sumL_le ls k
    have htl : (ls.take k).length ≤ 200 := by rw [List.length_take]; omega
    obtain ⟨bl, hbl⟩ : ∃ bl, bl = encs (ls.take k) := ⟨_, rfl⟩
    rw [← hbl] at HO HA hel
    have HBL := Lib.hid hbl
    have hbln : bl.length ≤ 210000 := by omega
    obtain ⟨Au, cu, hu⟩ := own_shape HO.out
    subst hu
    obtain ⟨N, hN⟩ : ∃ N, N = bl.length := ⟨_, rfl⟩
    rw [← hN] at HO HA hbln ⊢
    have HNN := Lib.hid hN
    clear hbl hel hsk htl hN
    by_cases hkn : k < n
    · obtain ⟨g1, o1, rfl, hg1, hr1⟩ := R1.out (by omega)
      obtain ⟨x, u0, hx, a0, hA0⟩ := ArgR.get (w := w) (c := c1) hr1 HN.out E1.out hkn
      have a1 := (HB.out.cell (p := ⟨g1, o1 + k, none⟩) hg1).trans a0
      have HA0 := Lib.hid (argB_below hA0 HB.out)
      have HX := Lib.hid hx
      obtain ⟨A0, c0, rfl, hc0⟩ := hA0.shape
      have hxl : x.length ≤ 140737488351232 := HRS.out.2.2 x (List.mem_of_getElem? hx)
      have hxs : x.length ≤ 200000 := by
        have h1 := sumL_take ls k x hx
        have h2 := sumL_le ls (k + 1)
        omega
      clear a0 hA0 hr1 hx
      go_wp2_with fail
      refine (copyBytes_any _ x wr HA0.out (by omega)).mono ?_
      rintro e w3 ⟨v3, rfl, ho3, hb3⟩
      have HB3 := Lib.hid (HB.out.trans (hb3.mono HB.out.size))
      by_cases hbig : 65536 < x.length
      · have HE := Lib.hid (encode_big v3 x w3 (own_argB ho3.out.2) hbig)
        have a3 := (hb3.cell (p := ⟨g1, o1 + k, none⟩) (by have := HB.out.size; show g1 < _; omega)).trans a1
        have hg3 : decide ((65536 : Int) < (x.length : Int)) = true := decide_eq_true (by omega)
        clear a1 hb3 ho3
        go_wp2_with fail
        refine HE.out.mono ?_
        rintro e w4 ⟨rfl, rfl⟩
        go_wp2
        go_ret
        exact ⟨rfl, HB3.out⟩
      · have HE := Lib.hid (encode_any v3 x w3 (own_argB ho3.out.2) (by omega) (pow_below HT.out HB3.out))
        have HO3 := Lib.hid (own_keep HO.out hb3)
        clear a1 hb3 ho3
        go_wp2_with fail
        refine HE.out.mono ?_
        rintro e w4 ⟨v4, rfl, ha4, hb4⟩
        have HB4 := Lib.hid (HB3.out.trans (hb4.mono HB3.out.size))
        have HO4 := Lib.hid (own_keep HO3.out hb4)
        have hel4 := (encF_len x (by omega)).1
        have HTK := Lib.hid (show encs (ls.take (k + 1)) = bl ++ encF x by rw [encs_take ls k x HX.out, HBL.out])
        have HSK := Lib.hid (show ∀ y ∈ ls.take (k + 1), y.length ≤ 65536 by
          intro y hy
          rw [List.take_add_one, HX.out] at hy
          rcases List.mem_append.1 hy with h | h
          · exact HS.out y h
          · simp at h
            subst h
            omega)
        clear hb4
        go_wp2_with (at_builtin; refine wpList_append_argB rfl _ _ 27 rfl w.heap.size 5 i0 _ Tryd.underlying27 hi hz0 hz1 hz2 rfl _ bl rfl (by rw [← HNN.out]; exact HO4.out) v4 (encF x) rfl ha4.out (by have := HNN.out; omega) HB4.out.size ?_; intro v5 w5 hown5 hgrow5 _; have HO5 := Lib.hid hown5; have HB5 := Lib.hid (HB4.out.grown hgrow5 HB4.out.size (fun j e => (HO4.out.lt j e).1)); clear hown5 hgrow5)
        go_roundw
        case rel => exact ⟨k + 1, N, by go_num, by go_num, by omega, by rw [HTK.out]; exact HO5.out, HSK.out, by rw [HNN.out, HBL.out]; rfl, HB5.out⟩
        case measure => (simp [RowKit.intOf] <;> omega)
    · have hke : k = n := by omega
      subst hke
      have hall : ls.take k = ls := List.take_of_length_le (by have := HN.out; omega)
      have HBE := Lib.hid (show bl = encs ls by rw [HBL.out, hall])
      have HSA := Lib.hid (show ∀ x ∈ ls, x.length ≤ 65536 by have h := HS.out; rwa [hall] at h)
      have HFL := Lib.hid (show feedL bl = (ls, [], 0) by
        have h := feedL_encs ls [] HSA.out
        rw [feedL_nil, List.append_nil, List.append_nil] at h
        rw [HBE.out]
        exact h)
      have hb6 := (Below.refl wr.heap.size wr).alloc (Nat.le_refl _) (.cells #[.slice Au N cu] 27)
      have HB6 := Lib.hid (HB.out.trans (hb6.mono HB.out.size))
      have hal := all_any _ [bl] _ (one_argR wr (.slice Au N cu) bl HA.out) (by simp [joinL]; have := HNN.out; omega) (by simp) (maxL_below HM.out HB6.out hML)
      unfold AllPost at hal
      rw [show joinL [bl] = bl by simp [joinL], HFL.out] at hal
      have hsm : smallRows ls := fun x hx => by have := HSA.out x hx; omega
      have HAL1 := Lib.hid hal
      clear hall hal hb6
      go_wp2_with fail
      refine HAL1.out.mono ?_
      rintro e w7 ⟨A7, c7, rfl, ha7, hb7⟩
      have HB7 := Lib.hid (HB6.out.trans (hb7.mono HB6.out.size))
      have HSR := Lib.hid (sameRows_any _ _ ls ls w7 ha7 (H0.out.below HB7.out) hsm hsm (by have := HN.out; omega) (by have := HN.out; omega))
      have HA8 := Lib.hid (argB_below (argB_below HA.out ((Below.refl wr.heap.size wr).alloc (Nat.le_refl _) (.cells #[.slice Au N cu] 27))) hb7)
      clear ha7 hb7
      go_wp2_with fail
      refine HSR.out.mono ?_
      rintro e w8 ⟨he8, q8, rfl⟩
      rw [decide_eq_true rfl] at he8
      subst he8
      have HB8 := Lib.hid (below_drewN HB7.out q8)
      obtain ⟨W8, hW8⟩ : ∃ W8, W8 = w7.drewN q8 := ⟨_, rfl⟩
      have HA9 := Lib.hid (argB_below HA8.out (below_drewN (Below.refl _ _) q8))
      rw [← hW8] at HB8 HA9 ⊢
      clear hW8
      have hmN : m ≤ N := by
        have h1 := HL.out
        have h2 := HNN.out
        rw [HBL.out] at h2
        have h3 : encs (ls.take k) = encs (ls.take (k - 1)) ++ encs ((ls.take k).drop (k - 1)) := by
          have h4 : ls.take (k - 1) = (ls.take k).take (k - 1) := by rw [List.take_take, Nat.min_eq_left (by omega)]
          unfold encs
          rw [h4, ← List.flatten_append, ← List.map_append, List.take_append_drop]
        have h5 := congrArg List.length h3
        rw [List.length_append] at h5
        omega
      by_cases hcz1 : z1 ≤ 0
      · have hg5 := decide_eq_true hcz1
        go_wp2
        go_ret
        exact ⟨rfl, HB8.out⟩
      by_cases hcz2 : (N : Int) - m < z1
      · have hg5 := decide_eq_false hcz1
        have hg6 := decide_eq_true hcz2
        go_wp2
        go_ret
        exact ⟨rfl, HB8.out⟩
      have hg5 := decide_eq_false hcz1
      have hg6 := decide_eq_false hcz2
      obtain ⟨q, hq⟩ : ∃ q : Nat, (N : Int) - z1 = q := ⟨((N : Int) - z1).toNat, by omega⟩
      have hqm : m ≤ q := by omega
      have hqN : q < N := by omega
      have HQ := Lib.hid hq
      obtain ⟨p, hp⟩ : ∃ p, k = p + 1 := ⟨k - 1, by
        rcases Nat.eq_zero_or_pos k with h | h
        · subst h
          have h2 := HNN.out
          rw [HBL.out] at h2
          simp [encs] at h2
          omega
        · omega⟩
      subst hp
      obtain ⟨r, hfr, hrl⟩ := encs_front (p := p) (q := q) (by have := HN.out; omega) HSA.out (by have h := HL.out; rw [Nat.add_sub_cancel] at h; omega) (by rw [← HBE.out, ← HNN.out]; exact hqN)
      have hrl2 : (r.length : Int) = (N : Int) - m - z1 := by
        have h := HL.out
        rw [Nat.add_sub_cancel] at h
        omega
      rw [← HBE.out] at hfr
      obtain ⟨T, hTp⟩ : ∃ T, T = ls.take p := ⟨_, rfl⟩
      rw [← hTp] at hfr
      have HTP := Lib.hid hTp
      have HFR := Lib.hid hfr
      have HRL := Lib.hid hrl2
      have hNc : N ≤ cu := by
        obtain ⟨⟨_, A, c, e, hc, _⟩, _⟩ := HA9.out
        simp only [Value.slice.injEq] at e
        have := HNN.out
        omega
      have HAQ := Lib.hid (HA9.out.take q (by omega))
      have hb10 := (Below.refl W8.heap.size W8).alloc (Nat.le_refl _) (.cells #[.slice Au q cu] 27)
      have HB10 := Lib.hid (HB8.out.trans (hb10.mono HB8.out.size))
      have hal2 := all_any _ [bl.take q] _ (one_argR W8 (.slice Au q cu) (bl.take q) HAQ.out) (by simp [joinL]; omega) (by simp) (maxL_below HM.out HB10.out hML)
      unfold AllPost at hal2
      rw [show joinL [bl.take q] = bl.take q by simp [joinL], HFR.out] at hal2
      have HAL2 := Lib.hid hal2
      clear hTp hal2 hb10 hcz1 hcz2 hfr hrl hrl2
      go_wp2_with fail
      refine HAL2.out.mono ?_
      rintro e w11 ⟨A11, c11, rfl, ha11, hb11⟩
      have HB11 := Lib.hid (HB10.out.trans (hb11.mono HB10.out.size))
      have hsm2 : smallRows T := fun x hx => hsm x (List.mem_of_mem_take (by rw [← HTP.out]; exact hx))
      have hl2 : T.length ≤ 1152921504606846976 := by rw [HTP.out, List.length_take]; have := HN.out; omega
      have HSR2 := Lib.hid (sameRows_any _ _ T T w11 ha11 (by have h := (H0.out.below HB11.out).take p (by omega); rwa [← HTP.out] at h) hsm2 hsm2 hl2 hl2)
      have hrlq := HRL.out
      clear ha11 hb11
      go_wp2_with fail
      refine HSR2.out.mono ?_
      rintro e w12 ⟨he12, q12, rfl⟩
      rw [decide_eq_true rfl] at he12
      subst he12
      go_wp2
      go_ret
      exact ⟨by first | rfl | simp, below_drewN HB11.out q12⟩
end Go.Proofs.YtphnplpgeoleeaaDoor
