/- TypesFilled's walk. -/
import Derived.Test.YtmpmibebkflaiaaDoorTypFi
import Derived.Test.YtmpmibebkflaiaaDoorTypCl
namespace Go.Proofs.YtmpmibebkflaiaaDoor
open Go.RowKit Go.Lib Go.Shelf Go.Sort Tp
set_option maxRecDepth 100000
set_option linter.unusedVariables false
set_option linter.unusedSectionVars false

theorem inst_fill {t : Ty} (h : rightF nameB t = true) (ws : List Ty) : instF nameB t (fillF ws t) = rightF nameB (fillF ws t) := by
  rw [Bool.eq_iff_iff, inst_iff]
  exact ⟨fun h => h.2.1, fun h2 => ⟨h, h2, _, rfl⟩⟩
theorem inst_self {t : Ty} (h : rightF nameB t = true) : instF nameB t t = true := (inst_iff _ _ _).2 ⟨h, h, var, subst_id t (right_ok h).1⟩
theorem right_var0 : rightF nameB (var 0) = true := by decide +kernel
theorem inst_var {t : Ty} (h : rightF nameB t = true) : instF nameB (var 0) t = true := (inst_iff _ _ _).2 ⟨right_var0, h, fun _ => t, subst_var rfl⟩
set_option maxHeartbeats 8000000 in
theorem typesFilled_walk (v0 : Value) (t : Ty) (v1 : Value) (ws : List Ty) (w : World) (h0 : ArgTy w v0 t) (h1 : ArgTys w v1 ws) (hT : Tabs w) : Calls Tryd.prog 5 #[v0, v1] w (TruePost w) := by
  obtain ⟨s0, rfl, hA0, hf0, hn0⟩ := h0
  obtain ⟨hA1, hf1, hl1⟩ := h1
  obtain ⟨A0, k0, rfl, -⟩ := hA0.form
  obtain ⟨A1, k1, rfl, hk1⟩ := hA1.form
  obtain ⟨M, hM, hx0, hMs, hMb⟩ := one_box w t (.slice A0 t.args.length k0) 24
  have hup : ∀ {W : World} {ls : List Ty} {v : Value}, Below M.heap.size M W → IsA w (Old w) ls v → IsA W (Old W) ls v := fun hW h => h.after (hMb.trans (hW.mono hMb.size))
  have HUP := Lib.hid (fun W (hW : Below M.heap.size M W) => hup hW hA0)
  have HUW := Lib.hid (fun W (hW : Below M.heap.size M W) => hup hW hA1)
  have HWB := Lib.hid (fun W (hW : Below M.heap.size M W) => hMb.trans (hW.mono hMb.size))
  have HA0 := Lib.hid hA0
  have HA1 := Lib.hid hA1
  have HAL := Lib.hid (fun W (hW : W = M) => hW ▸ alive_at hT hMb)
  have HG0 := Lib.hid (fun W (hW : Below M.heap.size M W) => great_any t _ W hf0 (hup hW hA0))
  have HCP := Lib.hid (fun W (hW : Below M.heap.size M W) => copyType_any t.wt t _ W (Nat.le_refl _) hf0 (hup hW hA0))
  have HR0 := Lib.hid (fun W s (hA : IsA W (Old W) t.args s) => right_any t s W hf0 hA)
  unfold NewT at HCP
  unfold tv at *
  have HX := Lib.hid (fun W (hW : Below M.heap.size M W) => box_at hx0 (by omega) hW)
  have HM := Lib.hid hM
  have HMb := Lib.hid hMb
  have HMs := Lib.hid hMs
  have HF := Lib.hid hf0
  have HFW := Lib.hid hf1
  have HNO := Lib.hid hn0
  obtain ⟨ga, hga⟩ : ∃ g, g = greatF t := ⟨_, rfl⟩
  rw [← hga] at HG0
  obtain ⟨r0, hr0⟩ : ∃ g, g = rightF nameB t := ⟨_, rfl⟩
  rw [← hr0] at HR0
  have HRR := Lib.hid hr0
  obtain ⟨L, hL⟩ : ∃ L, L = ws.length := ⟨_, rfl⟩
  rw [← hL] at hl1 hk1 HA1 HUW ⊢
  have HL := Lib.hid hL
  clear hga hr0 hA0 hf0 hn0 hx0 hM hMb hMs hup hT hf1 hA1 hL
  go_enter Tryd.func5, Tryd.ntmps5
  go_wp2_with fail
  refine (HAL.out _ HM.out.symm).mono ?_
  rintro e w1 ⟨rfl, hb⟩
  have HB1 := Lib.hid (show Below M.heap.size M w1 by first | exact hb | (rw [HM.out]; exact hb) | (rw [← HM.out] at hb; exact hb))
  clear hb HAL
  obtain ⟨x0, x1, x2, x3⟩ := HX.out w1 HB1.out
  go_wp2_with fail
  refine (HG0.out w1 HB1.out).mono ?_
  rintro e w2 ⟨rfl, hb⟩
  have HB2 := Lib.hid (HB1.out.trans (hb.mono HB1.out.size))
  clear hb
  obtain ⟨x0, x1, x2, x3⟩ := HX.out w2 HB2.out
  cases ga
  case true =>
    go_wp2
    go_ret
    exact ⟨rfl, HMb.out.trans (HB2.out.mono HMb.out.size)⟩
  go_wp2_with fail
  refine (HCP.out w2 HB2.out).mono ?_
  rintro e w3 ⟨Ac, cc, rfl, hic, hb⟩
  have HB3 := Lib.hid (HB2.out.trans (hb.mono HB2.out.size))
  have HR1 := Lib.hid (HR0.out w3 _ hic.out.new)
  clear hb hic
  go_wp2_with fail
  refine HR1.out.mono ?_
  rintro e w4 ⟨rfl, hb⟩
  have HB4 := Lib.hid (HB3.out.trans (hb.mono HB3.out.size))
  clear hb
  cases r0
  case false =>
    go_wp2
    go_ret
    exact ⟨rfl, HMb.out.trans (HB4.out.mono HMb.out.size)⟩
  by_cases hten : 10 < L
  · have hti : (10 : Int) < L := by omega
    go_wp2
    go_ret
    exact ⟨rfl, HMb.out.trans (HB4.out.mono HMb.out.size)⟩
  have hti : ¬ (10 : Int) < L := by omega
  have HTEN := Lib.hid hten
  clear hten
  go_wp2
  go_loopw [5] (fun i wr => ∃ k : Nat, k ≤ L ∧ i = .int .i64 k ∧ RowKit.Hid (Below M.heap.size M wr)) (fun i _ => L - (RowKit.intOf i).toNat)
  case atStart => exact ⟨0, by omega, rfl, HB4⟩
  case round =>
    obtain ⟨k, hk, rfl, HB⟩ := hrel
    by_cases hlt : k < L
    · obtain ⟨Ax, cx, ex, hcx, hr⟩ := (HA1.out).open
      obtain ⟨g, o, e2, hg, hel⟩ := hr (by have := HL.out; omega)
      simp only [Value.slice.injEq] at ex
      obtain ⟨rfl, -, rfl⟩ := ex
      subst e2
      obtain ⟨u, hu⟩ : ∃ u, ws[k]? = some u := ⟨_, List.getElem?_eq_getElem (by have := HL.out; omega)⟩
      have hum := List.mem_of_getElem? hu
      obtain ⟨su, c0, c1, c2, c3, hau⟩ := hel k u hu
      have hcl : ∀ (W : World) (hW : Below M.heap.size M W) j, W.cell? ⟨g, j, none⟩ = w.cell? ⟨g, j, none⟩ := fun W hW j => (HWB.out W hW).cell (p := ⟨g, j, none⟩) hg
      have HCL := Lib.hid (fun W (hW : Below M.heap.size M W) => show W.cell? ⟨g, o + k * 4, none⟩ = some (.int .i64 u.kind) ∧ W.cell? ⟨g, o + k * 4 + 1, none⟩ = some (.int .i64 u.num) ∧ W.cell? ⟨g, o + k * 4 + 2, none⟩ = some (.string u.name) ∧ W.cell? ⟨g, o + k * 4 + 3, none⟩ = some su from
        ⟨(hcl W hW _).trans c0, (hcl W hW _).trans c1, (hcl W hW _).trans c2, (hcl W hW _).trans c3⟩)
      obtain ⟨Au, cu, rfl, hcu⟩ := hau.form
      have hau2 : ∀ {W : World}, Below M.heap.size M W → IsA W (Old W) u.args (.slice Au u.args.length cu) := fun hW => hau.after (HWB.out _ hW)
      have HW1 := Lib.hid (weight_any u.wt u 40 _ wr (Nat.le_refl _) (by decide) (by decide) (HFW.out u hum).1 (hau2 HB.out))
      have HC1 := Lib.hid (fun W (hW : Below M.heap.size M W) => copyType_any u.wt u _ W (Nat.le_refl _) (HFW.out u hum).1 (hau2 hW))
      have HRU := Lib.hid (fun W s (hA : IsA W (Old W) u.args s) => right_any u s W (HFW.out u hum).1 hA)
      unfold NewT at HC1
      unfold tv at HW1 HC1 HRU
      obtain ⟨q, hq⟩ : ∃ q, q = weightF 40 u := ⟨_, rfl⟩
      obtain ⟨ru, hru⟩ : ∃ q, q = rightF nameB u := ⟨_, rfl⟩
      rw [← hq] at HW1
      rw [← hru] at HRU
      clear hq hru hel hu hum c0 c1 c2 c3 hau hcl hau2 hr
      obtain ⟨c0, c1, c2, c3⟩ := HCL.out wr HB.out
      go_wp2_with fail
      refine HW1.out.mono ?_
      rintro e w5 ⟨rfl, hb⟩
      have HB5 := Lib.hid (HB.out.trans (hb.mono HB.out.size))
      clear hb
      obtain ⟨c0, c1, c2, c3⟩ := HCL.out w5 HB5.out
      by_cases hq : 40 < q
      · go_wp2
        go_ret
        exact ⟨rfl, HMb.out.trans (HB5.out.mono HMb.out.size)⟩
      · go_wp2_with fail
        refine (HC1.out w5 HB5.out).mono ?_
        rintro e w6 ⟨Ay, cy, rfl, hiy, hb⟩
        have HB6 := Lib.hid (HB5.out.trans (hb.mono HB5.out.size))
        have HR6 := Lib.hid (HRU.out w6 _ hiy.out.new)
        clear hb hiy
        go_wp2_with fail
        refine HR6.out.mono ?_
        rintro e w7 ⟨rfl, hb⟩
        have HB7 := Lib.hid (HB6.out.trans (hb.mono HB6.out.size))
        clear hb
        cases ru
        case false =>
          go_wp2
          go_ret
          exact ⟨rfl, HMb.out.trans (HB7.out.mono HMb.out.size)⟩
        go_wp2
        go_roundw
        case rel => exact ⟨k + 1, by omega, by go_num, HB7⟩
        case measure => simp [RowKit.intOf]; omega
    · have hkL : k = L := by omega
      subst hkL
      go_upto_region 10 with fail
      have hr := HRR.out.symm
      have HZ := Lib.hid (show ∀ W, RowKit.Hid (Below wr.heap.size wr W) → W.cell? ⟨w.heap.size, 0, none⟩ = some (.int .i64 t.kind) ∧ W.cell? ⟨w.heap.size, 1, none⟩ = some (.int .i64 t.num) ∧ W.cell? ⟨w.heap.size, 2, none⟩ = some (.string t.name) ∧ W.cell? ⟨w.heap.size, 3, none⟩ = some (.slice A0 t.args.length k0) ∧ RowKit.Hid (Below wr.heap.size wr W) from fun W hW => by
        obtain ⟨p0, p1, p2, p3⟩ := HX.out W (HB.out.trans (hW.out.mono HB.out.size))
        exact ⟨p0, p1, p2, p3, hW⟩)
      have HJ0 := Lib.hid (fun W (hW : RowKit.Hid (Below wr.heap.size wr W)) => (HCP.out W (HB.out.trans (hW.out.mono HB.out.size))).mono fun e w' h => show ∃ A c, e = .returned (.agg #[.int .i64 t.kind, .int .i64 t.num, .string t.name, .slice A t.args.length c]) ∧ RowKit.Hid (IsA w' (Old w') t.args (.slice A t.args.length c)) ∧ RowKit.Hid (Below W.heap.size W w') from by
        obtain ⟨A, c, h1, h2, h3⟩ := h
        exact ⟨A, c, h1, Lib.hid h2.out.new, Lib.hid h3⟩)
      have HJ1 := Lib.hid (fun W A c (hW : RowKit.Hid (Below wr.heap.size wr W)) (hA : RowKit.Hid (IsA W (Old W) t.args (.slice A t.args.length c))) => (instance_any t t _ _ W HF.out HF.out HNO.out (HUP.out W (HB.out.trans (hW.out.mono HB.out.size))) hA.out).mono fun e w' h => show e = .returned (.bool true) ∧ RowKit.Hid (Below W.heap.size W w') from ⟨by rw [h.1, inst_self hr], Lib.hid h.2⟩)
      have HJ2 := Lib.hid (fun W (hW : RowKit.Hid (Below wr.heap.size wr W)) => (instance_any (var 0) t (.slice none 0 0) _ W (fit_var 0) HF.out (numsOk_ok (right_ok right_var0).1) (IsA.nil _ _ _ _) (HUP.out W (HB.out.trans (hW.out.mono HB.out.size)))).mono fun e w' h => show e = .returned (.bool true) ∧ RowKit.Hid (Below W.heap.size W w') from ⟨by rw [h.1, inst_var hr], Lib.hid h.2⟩)
      unfold tv at HJ1 HJ2
      have e1 : (var 0).kind = 1 := rfl
      have e2 : (var 0).num = 0 := rfl
      have e3 : (var 0).name = ⟨#[]⟩ := rfl
      rw [e1, e2, e3] at HJ2
      have hS0 : RowKit.Hid (Below wr.heap.size wr wr.drew) := Lib.hid (Below.refl _ _).drew
      have HRT := Lib.hid hr
      clear hr e1 e2 e3 HB1 HB2 HB3 HB4 HR1 HG0 HCP
      go_region_held3 (fun W => W.cell? ⟨w.heap.size, 0, none⟩ = some (.int .i64 t.kind) ∧ W.cell? ⟨w.heap.size, 1, none⟩ = some (.int .i64 t.num) ∧ W.cell? ⟨w.heap.size, 2, none⟩ = some (.string t.name) ∧ W.cell? ⟨w.heap.size, 3, none⟩ = some (.slice A0 t.args.length k0) ∧ RowKit.Hid (Below wr.heap.size wr W)) (first | exact HZ.out _ hS0 | exact HZ.out _ ‹RowKit.Hid (Below wr.heap.size wr _)› | exact HZ.out _ (keepW ‹RowKit.Hid (Below _ _ _)› ‹RowKit.Hid (Below wr.heap.size wr _)›)) (first | (go_at_call 10; with_reducible (refine (HJ0.out _ ‹_›).mono ?_); rintro e wn ⟨Ac, cc, rfl, hic, hbn⟩; have hbk := keepW hbn ‹_›) | (go_at_call 11; with_reducible (refine (HJ1.out _ _ _ ‹_› ‹_›).mono ?_); rintro e wn ⟨rfl, hbn⟩; have hbk := keepW hbn ‹_›) | (go_at_call 11; with_reducible (refine (HJ2.out _ ‹_›).mono ?_); rintro e wn ⟨rfl, hbn⟩; have hbk := keepW hbn ‹_›))
      go_upto_region 12 with fail
      have HBn := Lib.hid (HB.out.trans (hbk.out.mono HB.out.size))
      have HFI := Lib.hid (filled_any wn.heap.size ws (.slice A1 k k1) (by have := HTEN.out; have := HL.out; omega) (fun u hu => (HFW.out u hu).1) t.wt t _ wn (Nat.le_refl _) HF.out (right_ok HRT.out).1 (Nat.le_refl _) (HUP.out wn HBn.out) (HUW.out wn HBn.out))
      have hif := inst_fill HRT.out ws
      have hff : fit (fillF ws t) := fit_subst HF.out (fit_sub10 fun u hu => (HFW.out u hu).1)
      obtain ⟨F, hF⟩ : ∃ F, F = fillF ws t := ⟨_, rfl⟩
      rw [← hF] at HFI hif hff
      have HFF := Lib.hid hff
      have HIF := Lib.hid hif
      have HBK := Lib.hid hbk
      obtain ⟨x0, x1, x2, x3⟩ := HX.out wn HBn.out
      unfold FillPost tv at HFI
      clear hF hif hff hbk hic hbn HJ0 HJ1 HJ2 HZ hS0
      go_wp2_with fail
      with_reducible refine HFI.out.mono ?_
      rintro e w11 ⟨Af, cf, rfl, hif, hb⟩
      have HB11 := Lib.hid (HBn.out.trans (hb.mono HBn.out.size))
      have hsz := hb.size
      obtain ⟨W11, hW11, hbx11, hs11, hb11⟩ := one_box w11 F (.slice Af F.args.length cf) 24
      have HIF11 := Lib.hid ((hif.out.weak (S' := Old w11) fun g hg => by unfold Old; rcases hg with h | h <;> omega).after hb11)
      have HBX11 := Lib.hid (HB11.out.trans (hb11.mono HB11.out.size))
      have hw11 : w11.heap.size < W11.heap.size := by omega
      have HZ := Lib.hid (show ∀ W, RowKit.Hid (Below W11.heap.size W11 W) → W.cell? ⟨w.heap.size, 0, none⟩ = some (.int .i64 t.kind) ∧ W.cell? ⟨w.heap.size, 1, none⟩ = some (.int .i64 t.num) ∧ W.cell? ⟨w.heap.size, 2, none⟩ = some (.string t.name) ∧ W.cell? ⟨w.heap.size, 3, none⟩ = some (.slice A0 t.args.length k0) ∧ W.cell? ⟨w11.heap.size, 0, none⟩ = some (.int .i64 F.kind) ∧ W.cell? ⟨w11.heap.size, 1, none⟩ = some (.int .i64 F.num) ∧ W.cell? ⟨w11.heap.size, 2, none⟩ = some (.string F.name) ∧ W.cell? ⟨w11.heap.size, 3, none⟩ = some (.slice Af F.args.length cf) ∧ RowKit.Hid (Below W11.heap.size W11 W) from fun W hW => by
        obtain ⟨p0, p1, p2, p3⟩ := HX.out W (HBX11.out.trans (hW.out.mono HBX11.out.size))
        obtain ⟨q0, q1, q2, q3⟩ := box_at hbx11 hw11 hW.out
        exact ⟨p0, p1, p2, p3, q0, q1, q2, q3, hW⟩)
      obtain ⟨rf, hrf⟩ : ∃ r, r = rightF nameB F := ⟨_, rfl⟩
      have HJ1 := Lib.hid (fun W (hW : RowKit.Hid (Below W11.heap.size W11 W)) => (instance_any t F _ _ W HF.out HFF.out HNO.out (HUP.out W (HBX11.out.trans (hW.out.mono HBX11.out.size))) (HIF11.out.after hW.out)).mono fun e w' h => show e = .returned (.bool rf) ∧ RowKit.Hid (Below W.heap.size W w') from ⟨by rw [h.1, HIF.out, hrf], Lib.hid h.2⟩)
      have HJ2 := Lib.hid (fun W (hW : RowKit.Hid (Below W11.heap.size W11 W)) => (right_any F _ W HFF.out (HIF11.out.after hW.out)).mono fun e w' h => show e = .returned (.bool rf) ∧ RowKit.Hid (Below W.heap.size W w') from ⟨by rw [h.1, hrf], Lib.hid h.2⟩)
      unfold tv at HJ1 HJ2
      have hS0 : RowKit.Hid (Below W11.heap.size W11 W11.drew) := Lib.hid (Below.refl _ _).drew
      have HW11 := Lib.hid hW11
      clear hrf hW11 hb11 hs11 hbx11 hw11 hif hb hsz
      go_upto_region 13 with fail
      rw [← HW11.out]
      go_region_held3 (fun W => W.cell? ⟨w.heap.size, 0, none⟩ = some (.int .i64 t.kind) ∧ W.cell? ⟨w.heap.size, 1, none⟩ = some (.int .i64 t.num) ∧ W.cell? ⟨w.heap.size, 2, none⟩ = some (.string t.name) ∧ W.cell? ⟨w.heap.size, 3, none⟩ = some (.slice A0 t.args.length k0) ∧ W.cell? ⟨w11.heap.size, 0, none⟩ = some (.int .i64 F.kind) ∧ W.cell? ⟨w11.heap.size, 1, none⟩ = some (.int .i64 F.num) ∧ W.cell? ⟨w11.heap.size, 2, none⟩ = some (.string F.name) ∧ W.cell? ⟨w11.heap.size, 3, none⟩ = some (.slice Af F.args.length cf) ∧ RowKit.Hid (Below W11.heap.size W11 W)) (first | exact HZ.out _ hS0 | exact HZ.out _ ‹RowKit.Hid (Below W11.heap.size W11 _)› | exact HZ.out _ (keepW ‹RowKit.Hid (Below _ _ _)› ‹RowKit.Hid (Below W11.heap.size W11 _)›)) (first | (go_at_call 11; with_reducible (refine (HJ1.out _ ‹_›).mono ?_); rintro e wn ⟨rfl, hbn⟩; have hbk := keepW hbn ‹_›) | (go_at_call 17; with_reducible (refine (HJ2.out _ ‹_›).mono ?_); rintro e wn ⟨rfl, hbn⟩; have hbk := keepW hbn ‹_›))
      all_goals
        have hbk2 := RowKit.Hid.out ‹RowKit.Hid (Below W11.heap.size W11 _)›
        go_wp2
        go_ret
        exact ⟨by cases rf <;> rfl, HMb.out.trans ((HBX11.out.trans (hbk2.mono HBX11.out.size)).mono HMb.out.size)⟩
end Go.Proofs.YtmpmibebkflaiaaDoor
