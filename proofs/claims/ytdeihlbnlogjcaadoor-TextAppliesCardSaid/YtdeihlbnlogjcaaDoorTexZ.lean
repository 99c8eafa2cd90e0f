/- The reference's Apply. -/
import Derived.Test.YtdeihlbnlogjcaaDoorTexY
import Derived.Test.YtdeihlbnlogjcaaDoorTexL
import Derived.Deep.RegionWith
namespace Go.Proofs.YtdeihlbnlogjcaaDoor
open Go.RowKit Go.Lib Go.Shelf
set_option maxRecDepth 100000
set_option linter.unusedVariables false

theorem tOffK_two {L : List UInt8} (hv : validD L = true) (a b : Int) : tOffK L a b = 0 ∨ tOffK L a b = 70 := by
  unfold tOffK
  rw [if_pos hv]
  split
  · exact .inl rfl
  · exact .inr rfl
theorem box5 {w W : World} {x : ET} (h : W = w.alloc (.cells #[.int .i64 x.a, .int .i64 x.b, .int .i64 x.c, .int .i64 x.d, .string x.t] 60)) : ∀ W', Below W.heap.size W W' → FiveB W' w.heap.size (.int .i64 x.a) (.int .i64 x.b) (.int .i64 x.c) (.int .i64 x.d) (.string x.t) := fun W' hb => by
  subst h
  exact FiveB.below ⟨heap_alloc_new w _⟩ hb (by simp)
set_option maxHeartbeats 2000000 in
theorem rapply7_any (v : Value) (xs : List ET) (s : ByteArray) (w : World) (h : Rd w w.heap.size 5 v xs.length (etsCells xs)) (hs : s.size ≤ 1099511627) (hx : ∀ x ∈ xs, EdOk x) (hl : xs.length ≤ 1099511627776) :
    Calls Tryd.prog 49 #[.string s, v] w fun e w' => e = .returned (.tuple #[.string (apAS s xs), .int .i64 (apAE s xs)]) ∧ Below w.heap.size w w' := by
  obtain ⟨-, A, c, rfl, hc, hr⟩ := h
  obtain ⟨n, hn⟩ : ∃ n, n = xs.length := ⟨_, rfl⟩
  rw [← hn] at hr hc hl ⊢
  have HN := Lib.hid hn
  have HR := Lib.hid hr
  have HX := Lib.hid hx
  clear hn hr hx
  obtain ⟨capF, objF, hcb, hnews, hcap⟩ := conv_bytes (P := Tryd.prog) s 9 22 5 Tryd.underlying9 Tryd.underlying22 Tryd.underlying5
  obtain ⟨p, hp⟩ : ∃ p : Nat, p = Ut.validP s.data.toList := ⟨_, rfl⟩
  have hv0 : Calls Tryd.prog 22 #[.slice (some ⟨w.heap.size, 0, none⟩) s.size (capF w)] ((w.alloc (objF w)).drew) fun e w' => e = .returned (.int .i64 (p : Nat)) ∧ Below w.heap.size w w' := by
    rw [hp]
    exact rvalid_conv s (by omega) w.heap.size (capF w) (objF w) w w.drew rfl ((Below.refl _ _).drew) rfl (hcap _) (fun j u hu => hnews w w.drew j u rfl hu)
  have HV := Lib.hid hv0
  have hvi := Ut.validD_iff s.data.toList
  rw [show s.data.toList.length = s.size by simp, ← hp] at hvi
  have hple : p ≤ s.size := by
    rw [hp]
    have := (Ut.validP_front _ s.data.toList (Nat.le_refl _)).1
    rw [show s.data.toList.length = s.size by simp] at this
    exact this
  have HVI := Lib.hid hvi
  clear hnews hcap hp hv0 hvi
  by_cases hps : p = s.size
  · have HVD := Lib.hid (HVI.out.2 hps)
    have hpi : ¬ (p : Int) < s.size := by omega
    have HF := Lib.hid (show apAS s xs = (apR s xs).1 ∧ apAE s xs = (apR s xs).2 by simp [apAS, apAE, HVD.out])
    clear hps
    go_enter Tryd.func49, Tryd.ntmps49
    go_wp2_with (first | (go_at_call 22; with_reducible (refine HV.out.mono ?_); rintro e w1 ⟨rfl, hb1⟩; have HB1 := Lib.hid hb1; clear hb1))
    clear hcb
    go_loopw [0, 6] (fun a i wr => ∃ (k : Nat) (S : ByteArray), k ≤ n ∧ a = .string S ∧ i = .int .i64 k ∧ S.size ≤ 1099511627 ∧ RowKit.Hid (validD S.data.toList = true) ∧ RowKit.Hid (apR s xs = apR S (xs.drop k)) ∧ RowKit.Hid (Below w.heap.size w wr)) (fun _ i _ => n - (RowKit.intOf i).toNat)
    case atStart => exact ⟨0, s, by omega, rfl, rfl, hs, HVD.out, rfl, HB1.out⟩
    case round =>
      obtain ⟨k, S, hk, rfl, rfl, hS, HVS, HA, HB⟩ := hrel
      have hsz := HB.out.size
      by_cases hkn : k < n
      · have hki : (k : Int) < n := by omega
        obtain ⟨g, o, rfl, hg, hr⟩ := HR.out (by omega)
        obtain ⟨x, hxk, d0, d1, d2, d3, d4⟩ := rd_et hr HN.out hkn
        have c0 := (HB.out.cell (p := ⟨g, o + k * 5, none⟩) hg).trans d0
        have c1 := (HB.out.cell (p := ⟨g, o + k * 5 + 1, none⟩) hg).trans d1
        have c2 := (HB.out.cell (p := ⟨g, o + k * 5 + 2, none⟩) hg).trans d2
        have c3 := (HB.out.cell (p := ⟨g, o + k * 5 + 3, none⟩) hg).trans d3
        have c4 := (HB.out.cell (p := ⟨g, o + k * 5 + 4, none⟩) hg).trans d4
        have hok := HX.out x (List.mem_of_getElem? hxk)
        have HDR := Lib.hid (show xs.drop k = x :: xs.drop (k + 1) from (List.drop_eq_getElem_cons (by have := HN.out; omega)).trans (by
          congr 1
          have := (List.getElem?_eq_some_iff.1 hxk).2
          exact this))
        obtain ⟨W0, hW0⟩ : ∃ W0, W0 = wr.alloc (.cells #[.int .i64 x.a, .int .i64 x.b, .int .i64 x.c, .int .i64 x.d, .string x.t] 60) := ⟨_, rfl⟩
        have HBX := Lib.hid (box5 hW0)
        have HB0 := Lib.hid (show Below w.heap.size w W0 by rw [hW0]; exact HB.out.alloc hsz _)
        have HW0 := Lib.hid hW0
        have HSZ := Lib.hid (apT_size S x)
        have HTV := Lib.hid (fun h => apT_valid (s := S) (x := x) h)
        have HO1 := Lib.hid (fun W => roffset7_any S x.a x.b W hS)
        have HO2 := Lib.hid (fun W => roffset7_any S x.c x.d W hS)
        have hxs := hok.size
        clear hr d0 d1 d2 d3 d4 hxk hok hW0
        obtain ⟨E, hE⟩ : ∃ E, E = apE S x := ⟨_, rfl⟩
        obtain ⟨R, hR⟩ : ∃ R, R = apS S x := ⟨_, rfl⟩
        have HE := Lib.hid (And.intro hE hR)
        rw [← hE] at HSZ HTV
        clear hE hR
        obtain ⟨xa, xb, xc, xd, xt⟩ := x
        simp only at c0 c1 c2 c3 c4 hxs HO1 HO2
        obtain ⟨capG, objG, hcg, hnewg, hcapg⟩ := conv_bytes (P := Tryd.prog) xt 9 22 5 Tryd.underlying9 Tryd.underlying22 Tryd.underlying5
        obtain ⟨r, hr⟩ : ∃ p : Nat, p = Ut.validP xt.data.toList := ⟨_, rfl⟩
        have HV2 := Lib.hid (show Calls Tryd.prog 22 #[.slice (some ⟨W0.heap.size, 0, none⟩) xt.size (capG W0.drew)] ((W0.alloc (objG W0.drew)).drew.drew) fun e w' => e = .returned (.int .i64 (r : Nat)) ∧ Below W0.heap.size W0 w' from by
          rw [hr]
          exact rvalid_conv xt (by omega) W0.heap.size (capG W0.drew) (objG W0.drew) W0 W0.drew.drew rfl ((Below.refl _ _).drew.drew) rfl (hcapg _) (fun j u hu => hnewg W0.drew W0.drew.drew j u rfl hu))
        have HRV := Lib.hid hr
        have hrl : r ≤ xt.size := by
          rw [hr]
          have := (Ut.validP_front _ xt.data.toList (Nat.le_refl _)).1
          rwa [show xt.data.toList.length = xt.size by simp] at this
        clear hnewg hcapg hr
        go_wp2_with fail
        rw [← HW0.out]
        obtain ⟨⟨z0, z1, z2, z3, z4⟩, f0, f1, f2, f3, f4⟩ := (HBX.out W0 (Below.refl _ _)).cells
        have hgl : wr.heap.size < W0.heap.size := by rw [HW0.out]; simp
        clear c0 c1 c2 c3 c4
        go_region_with (first | (go_at_call 22; with_reducible (refine HV2.out.mono ?_); rintro e w2 ⟨rfl, hb2⟩; obtain ⟨⟨y0, y1, y2, y3, y4⟩, -⟩ := (HBX.out w2 hb2).cells; have HB2 := Lib.hid hb2; clear hb2))
        all_goals
          clear y0 y1 y2 y3 y4 z0 z1 z2 z3 z4 f0 f1 f2 f3 f4
          have HF2 := Lib.hid (HB0.out.trans (HB2.out.mono HB0.out.size))
          obtain ⟨⟨z0, z1, z2, z3, z4⟩, -⟩ := (HBX.out w2 HB2.out).cells
          by_cases hrv : r = xt.size
          · have hvx : validD xt.data.toList = true := (Ut.validD_iff _).2 (by rw [← HRV.out, hrv]; simp)
            have HVX := Lib.hid hvx
            have hri : ¬ (r : Int) < xt.size := by omega
            obtain ⟨k1, hk1⟩ : ∃ k, k = tOffK S.data.toList xa xb := ⟨_, rfl⟩
            obtain ⟨o1, ho1⟩ : ∃ k, k = tOffA S.data.toList xa xb := ⟨_, rfl⟩
            obtain ⟨k2, hk2⟩ : ∃ k, k = tOffK S.data.toList xc xd := ⟨_, rfl⟩
            obtain ⟨o2, ho2⟩ : ∃ k, k = tOffA S.data.toList xc xd := ⟨_, rfl⟩
            have HC1 := Lib.hid (HO1.out w2)
            rw [← hk1, ← ho1] at HC1
            have HC2 := Lib.hid HO2.out
            rw [← hk2, ← ho2] at HC2
            have HK := Lib.hid (And.intro (And.intro hk1 ho1) (And.intro hk2 ho2))
            have HT1 := Lib.hid (tOffK_two HVS.out xa xb)
            have HT2 := Lib.hid (tOffK_two HVS.out xc xd)
            rw [← hk1] at HT1
            rw [← hk2] at HT2
            clear hk1 ho1 hk2 ho2 hvx hrv
            go_wp2_with fail
            refine HC1.out.mono ?_
            rintro e w3 ⟨rfl, hb3⟩
            have HB3 := Lib.hid (HB2.out.trans (hb3.mono HB2.out.size))
            have HF3 := Lib.hid (HF2.out.trans (hb3.mono HF2.out.size))
            clear hb3 z0 z1 z2 z3 z4
            obtain ⟨⟨z0, z1, z2, z3, z4⟩, -⟩ := (HBX.out w3 HB3.out).cells
            go_wp2_with fail
            refine (HC2.out w3).mono ?_
            rintro e w4 ⟨rfl, hb4⟩
            have HB4 := Lib.hid (HB3.out.trans (hb4.mono HB3.out.size))
            have HF4 := Lib.hid (HF3.out.trans (hb4.mono HF3.out.size))
            clear hb4 z0 z1 z2 z3 z4
            obtain ⟨⟨z0, z1, z2, z3, z4⟩, -⟩ := (HBX.out w4 HB4.out).cells
            by_cases hq1 : k1 = 0
            · by_cases hq2 : k2 = 0
              · obtain ⟨n1, hn1, hl1⟩ : ∃ n : Nat, o1 = n ∧ n ≤ S.size := by
                  rcases tOff_cases S.data.toList xa xb with h | ⟨n, h1, h2, -⟩
                  · exact absurd (HK.out.1.1 ▸ hq1) h
                  · exact ⟨n, by rw [HK.out.1.2, h1], by simpa using h2⟩
                obtain ⟨n2, hn2, hl2⟩ : ∃ n : Nat, o2 = n ∧ n ≤ S.size := by
                  rcases tOff_cases S.data.toList xc xd with h | ⟨n, h1, h2, -⟩
                  · exact absurd (HK.out.2.1 ▸ hq2) h
                  · exact ⟨n, by rw [HK.out.2.2, h1], by simpa using h2⟩
                subst hn1 hn2
                have HFE := Lib.hid (show E = if (n2 : Int) < n1 then 71 else if (S.size : Int) - (n2 - n1) + xt.size > 32768 then 52 else 0 by
                  rw [HE.out.1]
                  unfold apE
                  rw [if_pos HVX.out, if_pos (HK.out.1.1 ▸ hq1), if_pos (HK.out.2.1 ▸ hq2)]
                  simp only
                  rw [← HK.out.1.2, ← HK.out.2.2])
                have HQ := Lib.hid (And.intro hq1 hq2)
                by_cases hlt : (n2 : Int) < n1
                · have HE2 := Lib.hid (show E = 71 by
                    have h := HFE.out
                    rw [if_pos hlt] at h
                    exact h)
                  have HAF := Lib.hid (show apR s xs = (⟨#[]⟩, 71) by
                    rw [HA.out, HDR.out, apR, if_neg (by rw [← HE.out.1, HE2.out]; decide), ← HE.out.1, HE2.out])
                  go_wp2
                  go_ret2
                  exact ⟨by rw [HF.out.1, HF.out.2, HAF.out]; rfl, HF4.out⟩
                · have HFE2 := Lib.hid (HFE.out.trans (if_neg hlt))
                  obtain ⟨R0, hR0⟩ : ∃ R0, R0 = S.extract 0 n1 ++ xt ++ S.extract n2 S.size := ⟨_, rfl⟩
                  have hR0s : (R0.size : Int) = (S.size : Int) - (n2 - n1) + xt.size := by
                    rw [hR0]
                    simp only [ByteArray.size_append, ByteArray.size_extract]
                    omega
                  have HR0 := Lib.hid hR0
                  have HRT := Lib.hid (show R0 = apT S ⟨xa, xb, xc, xd, xt⟩ by
                    unfold apT
                    simp only
                    rw [← HK.out.1.2, ← HK.out.2.2, Int.toNat_natCast, Int.toNat_natCast, hR0])
                  have HRS := Lib.hid hR0s
                  clear hR0 hR0s
                  go_wp2
                  go_quiet (fail)
                  rw [← HR0.out]
                  by_cases hgt : (R0.size : Int) > 32768
                  · have HE2 := Lib.hid (show E = 52 by
                      have h := HFE2.out
                      rw [if_pos (by rw [← HRS.out]; exact hgt)] at h
                      exact h)
                    have HAF := Lib.hid (show apR s xs = (⟨#[]⟩, 52) by
                      rw [HA.out, HDR.out, apR, if_neg (by rw [← HE.out.1, HE2.out]; decide), ← HE.out.1, HE2.out])
                    go_wp2
                    go_ret2
                    exact ⟨by rw [HF.out.1, HF.out.2, HAF.out]; rfl, below_drewN HF4.out _⟩
                  · have HE2 := Lib.hid (show E = 0 by
                      have h := HFE2.out
                      rw [if_neg (by rw [← HRS.out]; exact hgt)] at h
                      exact h)
                    have HA2 := Lib.hid (show apR s xs = apR R0 (xs.drop (k + 1)) by
                      rw [HA.out, HDR.out, apR, if_pos (by rw [← HE.out.1, HE2.out]), ← HRT.out])
                    have HVR := Lib.hid (show validD R0.data.toList = true by
                      rw [HRT.out]
                      exact HTV.out HE2.out)
                    have hRs : R0.size ≤ 1099511627 := by omega
                    go_wp2
                    refine ⟨⟨_, _, _, _, ⟨k + 1, by omega, R0, rfl, rfl, hRs, HVR.out, HA2.out, below_drewN HF4.out _⟩, rfl, rfl, rfl, by go_num⟩, ?_⟩
                    (simp [RowKit.intOf] <;> omega)
              · have HE2 := Lib.hid (show E = 70 by
                  rw [HE.out.1]
                  unfold apE
                  rw [if_pos HVX.out, if_pos (HK.out.1.1 ▸ hq1), if_neg (HK.out.2.1 ▸ hq2)]
                  simp only
                  rw [← HK.out.2.1]
                  exact HT2.out.resolve_left hq2)
                have HAF := Lib.hid (show apR s xs = (⟨#[]⟩, 70) by
                  rw [HA.out, HDR.out, apR, if_neg (by rw [← HE.out.1, HE2.out]; decide), ← HE.out.1, HE2.out])
                go_wp2
                go_ret2
                exact ⟨by rw [HF.out.1, HF.out.2, HAF.out]; rfl, HF4.out⟩
            · have HE2 := Lib.hid (show E = 70 by
                rw [HE.out.1]
                unfold apE
                rw [if_pos HVX.out, if_neg (HK.out.1.1 ▸ hq1)]
                simp only
                rw [← HK.out.1.1]
                exact HT1.out.resolve_left hq1)
              have HAF := Lib.hid (show apR s xs = (⟨#[]⟩, 70) by
                rw [HA.out, HDR.out, apR, if_neg (by rw [← HE.out.1, HE2.out]; decide), ← HE.out.1, HE2.out])
              go_wp2
              go_ret2
              exact ⟨by rw [HF.out.1, HF.out.2, HAF.out]; rfl, HF4.out⟩
          · have hvx : ¬ validD xt.data.toList = true := fun h => hrv (by rw [HRV.out, (Ut.validD_iff _).1 h]; simp)
            have hri : (r : Int) < xt.size := by omega
            have HE2 := Lib.hid (show E = 40 by
              rw [HE.out.1]
              unfold apE
              rw [if_neg hvx])
            have HAF := Lib.hid (show apR s xs = (⟨#[]⟩, 40) by
              rw [HA.out, HDR.out, apR, if_neg (by rw [← HE.out.1, HE2.out]; decide), ← HE.out.1, HE2.out])
            clear hvx hrv
            go_wp2
            go_ret2
            exact ⟨by rw [HF.out.1, HF.out.2, HAF.out]; rfl, HF2.out⟩
      · have hki : ¬ (k : Int) < n := by omega
        have HF2 := Lib.hid (show apR s xs = (S, 0) by
          rw [HA.out, List.drop_eq_nil_of_le (by have := HN.out; omega)]
          rfl)
        go_wp2
        go_ret2
        exact ⟨by rw [HF.out.1, HF.out.2, HF2.out]; rfl, HB.out⟩
  · have HX := Lib.hid (show apAS s xs = ⟨#[]⟩ ∧ apAE s xs = 40 by
      have hv : ¬ validD s.data.toList = true := fun h => hps (HVI.out.1 h)
      unfold apAS apAE
      rw [if_neg hv, if_neg hv]
      exact ⟨rfl, rfl⟩)
    have hpi : (p : Int) < s.size := by omega
    go_enter Tryd.func49, Tryd.ntmps49
    go_wp2_with (first | (go_at_call 22; with_reducible (refine HV.out.mono ?_); rintro e w1 ⟨rfl, hb1⟩; have HB1 := Lib.hid hb1; clear hb1))
    go_ret2
    exact ⟨by rw [HX.out.1, HX.out.2]; rfl, HB1.out⟩
end Go.Proofs.YtdeihlbnlogjcaaDoor
