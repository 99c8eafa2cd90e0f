/- The reference's Place; the walk of TextPlaces. -/
import Derived.Test.YtdeihlbnlogjcaaDoorTexT
namespace Go.Proofs.YtdeihlbnlogjcaaDoor
open Go.RowKit Go.Lib Go.Shelf
set_option maxRecDepth 100000
set_option linter.unusedVariables false

theorem last_own (F : List UInt8) (hv : validD F = true) : (posB F).1 = Lib.countByte F 10 ∧ validD (ownL F (Lib.countByte F 10)) = true ∧ (posB F).2 = ((Ut.unitsF (Ut.runesF (ownL F (Lib.countByte F 10)))).length : Nat) := by
  obtain ⟨k1, k2, -⟩ := Ut.valid_all F hv
  obtain ⟨rs, hrs⟩ : ∃ rs, rs = Ut.runesF F := ⟨_, rfl⟩
  rw [← hrs] at k1 k2
  have hcnt := count_encs rs k2
  rw [k1] at hcnt
  obtain ⟨a, b, e, ha, hk, hs⟩ := start_runes rs k2 (Lib.countByte F 10) (by omega)
  have hbr : ∀ r ∈ b, Ut.isR r = true := fun r h => k2 r (by rw [e]; simp [h])
  have hb : (10 : Int) ∉ b := by
    rw [← List.count_eq_zero]
    rw [e, List.count_append, ← posR_count, hk] at hcnt
    omega
  have hown : ownL F (Lib.countByte F 10) = Ut.encs b := by
    unfold ownL
    rw [k1] at hs
    rw [hs]
    conv => lhs; rw [← k1]
    rw [e, Ut.encs_app, List.drop_left, cut_no _ (lf_encs b hbr hb)]
  obtain ⟨q1, q2, -⟩ := Ut.encs_valid b hbr
  have hw : ∀ b : List Int, wid b = ((Ut.unitsF b).length : Nat) := by
    intro b
    induction b with
    | nil => rfl
    | cons r b ih =>
      rw [Ut.units_cons, List.length_append, wid, ih, ← Ut.unitsR_len]
      simp
  unfold posB
  rw [← hrs, hown, q2, ← hw b, e, pos_own ha hb]
  refine ⟨?_, q1, rfl⟩
  show (posR a).1 = _
  rw [hk, ← k1, e]
set_option maxHeartbeats 1500000 in
theorem rplace7_any (s : ByteArray) (o : Int) (w : World) (hs : s.size ≤ 1099511627) :
    Calls Tryd.prog 45 #[.string s, .int .i64 o] w fun e w' => e = .returned (.tuple #[.int .i64 (plL s.data.toList o), .int .i64 (plC s.data.toList o), .int .i64 (plK s.data.toList o)]) ∧ Below w.heap.size w w' := by
  have hL : s.data.toList.length = s.size := by simp
  obtain ⟨capF, objF, hcb, hnews, hcap⟩ := conv_bytes (P := Tryd.prog) s 9 22 5 Tryd.underlying9 Tryd.underlying22 Tryd.underlying5
  obtain ⟨p, hp⟩ : ∃ p : Nat, p = Ut.validP s.data.toList := ⟨_, rfl⟩
  have hv0 : Calls Tryd.prog 22 #[.slice (some ⟨w.heap.size, 0, none⟩) s.size (capF w)] ((w.alloc (objF w)).drew) fun e w' => e = .returned (.int .i64 (p : Nat)) ∧ Below w.heap.size w w' := by
    rw [hp]
    exact rvalid_conv s (by omega) w.heap.size (capF w) (objF w) w w.drew rfl ((Below.refl _ _).drew) rfl (hcap _) (fun j u hu => hnews w w.drew j u rfl hu)
  have HV := Lib.hid hv0
  have hvi := Ut.validD_iff s.data.toList
  rw [hL, ← hp] at hvi
  have hple : p ≤ s.size := by
    rw [hp]
    have := (Ut.validP_front _ s.data.toList (Nat.le_refl _)).1
    rw [hL] at this
    exact this
  have HVI := Lib.hid hvi
  have HL := Lib.hid hL
  clear hnews hcap hp hv0 hvi hL
  by_cases hps : p = s.size
  · have HVD := Lib.hid (HVI.out.2 hps)
    have hpi : ¬ (p : Int) < s.size := by omega
    clear hps
    go_enter Tryd.func45, Tryd.ntmps45
    by_cases h0 : o < 0
    · have HF := Lib.hid (show plL s.data.toList o = 0 ∧ plC s.data.toList o = 0 ∧ plK s.data.toList o = 70 by
        have : decide (0 ≤ o) = false := by simpa using h0
        simp [plL, plC, plK, HVD.out, isPl, this])
      go_wp2_with (first | (go_at_call 22; with_reducible (refine HV.out.mono ?_); rintro e w1 ⟨rfl, hb1⟩; have HB1 := Lib.hid hb1; clear hb1))
      go_ret3
      exact ⟨by rw [HF.out.1, HF.out.2.1, HF.out.2.2]; rfl, HB1.out⟩
    · by_cases h1 : o > s.size
      · have HF := Lib.hid (show plL s.data.toList o = 0 ∧ plC s.data.toList o = 0 ∧ plK s.data.toList o = 70 by
          have : decide (o ≤ (s.data.toList.length : Int)) = false := by rw [HL.out]; simp; omega
          simp only [plL, plC, plK, HVD.out, isPl, this]
          simp)
        go_wp2_with (first | (go_at_call 22; with_reducible (refine HV.out.mono ?_); rintro e w1 ⟨rfl, hb1⟩; have HB1 := Lib.hid hb1; clear hb1))
        go_ret3
        exact ⟨by rw [HF.out.1, HF.out.2.1, HF.out.2.2]; rfl, HB1.out⟩
      · obtain ⟨m, rfl⟩ : ∃ m : Nat, o = m := ⟨o.toNat, by omega⟩
        have hm : m ≤ s.size := by omega
        obtain ⟨ht1, ht2⟩ := take_str s m hm
        have HX1 := Lib.hid ht1
        have HX2 := Lib.hid ht2
        obtain ⟨capG, objG, hcg, hnewg, hcapg⟩ := conv_bytes (P := Tryd.prog) (s.extract 0 m) 9 22 5 Tryd.underlying9 Tryd.underlying22 Tryd.underlying5
        obtain ⟨r, hr⟩ : ∃ p : Nat, p = Ut.validP (s.extract 0 m).data.toList := ⟨_, rfl⟩
        have hv2 : ∀ W, Calls Tryd.prog 22 #[.slice (some ⟨W.heap.size, 0, none⟩) (s.extract 0 m).size (capG W)] ((W.alloc (objG W)).drew) fun e w' => e = .returned (.int .i64 (r : Nat)) ∧ Below W.heap.size W w' := fun W => by
          rw [hr]
          exact rvalid_conv (s.extract 0 m) (by omega) W.heap.size (capG W) (objG W) W W.drew rfl ((Below.refl _ _).drew) rfl (hcapg _) (fun j u hu => hnewg W W.drew j u rfl hu)
        rw [ht2] at hv2
        have HV2 := Lib.hid hv2
        have hvi := Ut.validD_iff (s.extract 0 m).data.toList
        have hrl : r ≤ m := by
          rw [hr]
          have := (Ut.validP_front (s.extract 0 m).data.toList.length _ (Nat.le_refl _)).1
          rw [ht1, List.length_take] at this
          rw [ht1]
          omega
        rw [← hr, ht1, List.length_take, Nat.min_eq_left (by have := HL.out; omega)] at hvi
        have HVJ := Lib.hid hvi
        have HPL := Lib.hid (show isPl s.data.toList m = validD (s.data.toList.take m) by
          unfold isPl
          rw [Int.toNat_natCast, decide_eq_true (by omega), decide_eq_true (by have := HL.out; omega)]
          rfl)
        have hmi : ¬ (m : Int) < 0 := by omega
        have hmi2 : ¬ (m : Int) > s.size := by omega
        clear hnewg hcapg hr ht1 ht2 hvi hv2 h0 h1
        by_cases hrm : r = m
        · have HVE := Lib.hid (HVJ.out.2 hrm)
          have hri : ¬ (r : Int) < m := by omega
          obtain ⟨l1, l2, l3⟩ := last_own (s.data.toList.take m) HVE.out
          obtain ⟨n, hn⟩ : ∃ n, n = Lib.countByte (s.data.toList.take m) 10 := ⟨_, rfl⟩
          have hnm : n ≤ m := by
            rw [hn]
            refine Nat.le_trans (count_le _) ?_
            rw [List.length_take]
            omega
          rw [← hn] at l1 l2 l3
          obtain ⟨O, hO⟩ : ∃ O : ByteArray, O = ⟨(ownL (s.data.toList.take m) n).toArray⟩ := ⟨_, rfl⟩
          have hOl : O.data.toList = ownL (s.data.toList.take m) n := by rw [hO]
          have hwl := own_len (s.data.toList.take m) n (by omega)
          rw [← hOl, show O.data.toList.length = O.size by simp, List.length_take] at hwl
          have hOs : O.size ≤ m := by omega
          rw [← hOl] at l2 l3
          obtain ⟨u, hu⟩ : ∃ u : Nat, u = (Ut.unitsF (Ut.runesF O.data.toList)).length := ⟨_, rfl⟩
          have HU := Lib.hid (And.intro hu l2)
          have HN := Lib.hid hn
          have HO := Lib.hid hO
          have HF := Lib.hid (show plL s.data.toList m = n ∧ plC s.data.toList m = u ∧ plK s.data.toList m = 0 by
            unfold plL plC plK
            rw [HVD.out, HPL.out, HVE.out, Int.toNat_natCast, l1, l3, ← hu]
            simp)
          clear hO hOl hn l1 l2 l3 hu hwl hrm
          go_wp2_with (first | (go_at_call 22; with_reducible (refine HV.out.mono ?_); rintro e w1 ⟨rfl, hb1⟩; have HB1 := Lib.hid hb1; clear hb1) | (go_at_call 22; with_reducible (refine (HV2.out w1).mono ?_); rintro e w2 ⟨rfl, hb2⟩; have HB2 := Lib.hid (HB1.out.trans (hb2.mono HB1.out.size)); clear hb2))
          refine (split7_any (s.extract 0 m) w2 (by have := HX2.out; omega)).mono ?_
          rintro e w3 ⟨v, rfl, ho, hb3⟩
          have HB3 := Lib.hid (HB2.out.trans (hb3.mono HB2.out.size))
          have hrd := Rd.of_own ho.out.2
          rw [HX1.out, lines_len, ← HN.out] at hrd
          obtain ⟨-, A, c, rfl, hc, hr⟩ := hrd
          obtain ⟨g, o, rfl, hg, hr⟩ := hr (by omega)
          have c0 := strV_cell hr (by rw [HN.out]) (show n < n + 1 by omega)
          rw [← HO.out] at c0
          have hn1 : ((n + 1 : Nat) : Int) - 1 = n := by omega
          have hn2 : (n : Int) + 1 - 1 = n := by omega
          have hni : (n : Int) < ((n + 1 : Nat) : Int) := by omega
          have hni2 : (n : Int) < (n : Int) + 1 := by omega
          have HUA := Lib.hid (fun W => runits_any first_c O W (by omega))
          clear hb3 ho hr
          go_wp2_with fail
          refine (HUA.out w3).mono ?_
          rintro e w4 ⟨h, hb4⟩
          rw [if_pos HU.out.2] at h
          obtain ⟨v4, rfl, hi4⟩ := h
          have hrd := hi4.rd
          rw [← HU.out.1] at hrd
          obtain ⟨-, A4, c4, rfl, hc4, -⟩ := hrd
          have HB4 := Lib.hid (HB3.out.trans (hb4.mono HB3.out.size))
          clear hb4 hi4 c0
          go_wp2
          go_ret3
          exact ⟨by rw [HF.out.1, HF.out.2.1, HF.out.2.2]; rfl, HB4.out⟩
        · have hri : (r : Int) < m := by omega
          have HF := Lib.hid (show plL s.data.toList m = 0 ∧ plC s.data.toList m = 0 ∧ plK s.data.toList m = 70 by
            have : validD (s.data.toList.take m) = false := by
              cases h : validD (s.data.toList.take m)
              · rfl
              · exact absurd (HVJ.out.1 h) hrm
            unfold plL plC plK
            rw [HVD.out, HPL.out, this]
            simp)
          go_wp2_with (first | (go_at_call 22; with_reducible (refine HV.out.mono ?_); rintro e w1 ⟨rfl, hb1⟩; have HB1 := Lib.hid hb1; clear hb1) | (go_at_call 22; with_reducible (refine (HV2.out w1).mono ?_); rintro e w2 ⟨rfl, hb2⟩; have HB2 := Lib.hid (HB1.out.trans (hb2.mono HB1.out.size)); clear hb2))
          go_ret3
          exact ⟨by rw [HF.out.1, HF.out.2.1, HF.out.2.2]; rfl, HB2.out⟩
  · have HX := Lib.hid (show plL s.data.toList o = 0 ∧ plC s.data.toList o = 0 ∧ plK s.data.toList o = 40 by
      have hv : validD s.data.toList = false := by
        cases h : validD s.data.toList
        · rfl
        · exact absurd (HVI.out.1 h) hps
      simp [plL, plC, plK, hv])
    have hpi : (p : Int) < s.size := by omega
    go_enter Tryd.func45, Tryd.ntmps45
    go_wp2_with (first | (go_at_call 22; with_reducible (refine HV.out.mono ?_); rintro e w1 ⟨rfl, hb1⟩; have HB1 := Lib.hid hb1; clear hb1))
    go_ret3
    exact ⟨by rw [HX.out.1, HX.out.2.1, HX.out.2.2]; rfl, HB1.out⟩
set_option maxHeartbeats 1000000 in
theorem textPlaces_walk (s : ByteArray) (line char o : Int) (w : World) (hs : s.size ≤ maxLen) (wl : (Lit.int .i64 line).wf = true) (_ : (Lit.int .i64 char).wf = true) (_ : (Lit.int .i64 o).wf = true) (hT : Tabs w) (hM : MaxL w) :
    Calls Tryd.prog 11 #[.string s, .int .i64 line, .int .i64 char, .int .i64 o] w (TruePost w) := by
  have hml := Lib.hid (maxL_lt hM)
  go_enter Tryd.func11, Tryd.ntmps11
  go_wp2_with fail
  refine (alive7_any w hT hM).mono ?_
  rintro e w1 ⟨rfl, hb1⟩
  have HB1 := Lib.hid hb1
  clear hb1
  by_cases hlen : s.size > 20000
  · have hl : (s.size : Int) > 20000 := by omega
    clear hlen
    go_wp2
    go_ret
    exact ⟨rfl, HB1.out⟩
  · have hl : ¬ (s.size : Int) > 20000 := by omega
    have HO1 := Lib.hid (toffset_any s line char w1 (by omega) wl (Utf8Tabs_below hT HB1.out) (maxL_below hM HB1.out hml.out))
    have HO2 := Lib.hid (fun W => roffset7_any s line char W (by omega))
    obtain ⟨a, ha⟩ : ∃ a, a = tOffA s.data.toList line char := ⟨_, rfl⟩
    obtain ⟨k, hk⟩ : ∃ a, a = tOffK s.data.toList line char := ⟨_, rfl⟩
    rw [← ha, ← hk] at HO1 HO2
    have HP1 := Lib.hid (fun W (h : Below w.heap.size w W) => place_any s o W (by omega) (Utf8Tabs_below hT h))
    have HP2 := Lib.hid (fun W => rplace7_any s o W (by omega))
    obtain ⟨pl, h1⟩ : ∃ a, a = plL s.data.toList o := ⟨_, rfl⟩
    obtain ⟨pc, h2⟩ : ∃ a, a = plC s.data.toList o := ⟨_, rfl⟩
    obtain ⟨pk, h3⟩ : ∃ a, a = plK s.data.toList o := ⟨_, rfl⟩
    rw [← h1, ← h2, ← h3] at HP1 HP2
    have hcl := count_le s.data.toList
    rw [show s.data.toList.length = s.size by simp] at hcl
    have HLN := Lib.hid (fun W => lines_any s (by omega) (by omega) W)
    have HSP := Lib.hid (fun W => split7_any s W (by omega))
    have HLL := Lib.hid (lines_len s.data.toList)
    obtain ⟨n, hn⟩ : ∃ n, n = Lib.countByte s.data.toList 10 := ⟨_, rfl⟩
    rw [← hn] at HLN HLL
    clear ha hk h1 h2 h3 hn wl
    go_wp2_with fail
    refine HO1.out.mono ?_
    rintro e w2 ⟨rfl, hb2⟩
    have HB2 := Lib.hid (HB1.out.trans (hb2.mono HB1.out.size))
    clear hb2
    go_wp2_with fail
    refine (HO2.out w2).mono ?_
    rintro e w3 ⟨rfl, hb3⟩
    have HB3 := Lib.hid (HB2.out.trans (hb3.mono HB2.out.size))
    clear hb3
    go_wp2_with (first | (go_at_call 42; with_reducible (refine (HLN.out _).mono ?_); rintro e w4 ⟨rfl, rfl⟩))
    refine (HSP.out w3).mono ?_
    rintro e w4 ⟨v, rfl, ho, hb4⟩
    have hrd := Rd.of_own ho.out.2
    rw [HLL.out] at hrd
    obtain ⟨-, A, c, rfl, hc, -⟩ := hrd
    have HB4 := Lib.hid (HB3.out.trans (hb4.mono HB3.out.size))
    clear hb4 ho
    go_wp2_with fail
    refine (HP1.out w4 HB4.out).mono ?_
    rintro e w5 ⟨rfl, hb5⟩
    have HB5 := Lib.hid (HB4.out.trans (hb5.mono HB4.out.size))
    clear hb5
    go_wp2_with fail
    refine (HP2.out w5).mono ?_
    rintro e w6 ⟨rfl, hb6⟩
    have HB6 := Lib.hid (HB5.out.trans (hb6.mono HB5.out.size))
    clear hb6
    go_wp2
    go_ret
    exact ⟨rfl, HB6.out⟩
end Go.Proofs.YtdeihlbnlogjcaaDoor
