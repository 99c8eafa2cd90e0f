/- The reference's Instance; TypesInstances' walk. -/
import Derived.Test.YtmpmibebkflaiaaDoorTypMc
namespace Go.Proofs.YtmpmibebkflaiaaDoor
open Go.RowKit Go.Lib Go.Shelf Go.Sort Tp
set_option maxRecDepth 100000
set_option linter.unusedVariables false
set_option linter.unusedSectionVars false

set_option maxHeartbeats 4000000 in
theorem rinst_any (g t : Ty) (s1 s2 : Value) (w : World) (hg : g.wt ≤ 1000) (ht : t.wt ≤ 1000) (hfg : fit g) (hft : fit t) (hng : ∀ p ∈ parts g, p.name.size ≤ 16000) (hnt : ∀ p ∈ parts t, p.name.size ≤ 16000) (hA1 : IsA w (Old w) g.args s1) (hA2 : IsA w (Old w) t.args s2) :
    Calls Tryd.prog 12 #[tv g s1, tv t s2] w fun e w' => e = .returned (.bool (instF nameB g t)) ∧ Below w.heap.size w w' := by
  obtain ⟨A1, c1, rfl, -⟩ := hA1.form
  obtain ⟨A2, c2, rfl, -⟩ := hA2.form
  obtain ⟨M, hM, hbx, hby, hMs, hMb⟩ := two_boxes w g t (.slice A1 g.args.length c1) (.slice A2 t.args.length c2) 24
  have hup : ∀ {W : World} {ls : List Ty} {v : Value}, Below M.heap.size M W → IsA w (Old w) ls v → IsA W (Old W) ls v := fun hW h => h.after (hMb.trans (hW.mono hMb.size))
  have HR0 := Lib.hid (fun W (hW : W = M) => hW ▸ rRight_any g _ M (by omega) hfg hng (hup (Below.refl _ _) hA1))
  have HR1 := Lib.hid (fun W (hW : Below M.heap.size M W) => rRight_any t _ W (by omega) hft hnt (hup hW hA2))
  have HX := Lib.hid (fun W (hW : Below M.heap.size M W) => And.intro (box_at hbx (by omega) hW) (box_at hby (by omega) hW))
  have HU1 := Lib.hid (fun W (hW : Below M.heap.size M W) => hup hW hA1)
  have HU2 := Lib.hid (fun W (hW : Below M.heap.size M W) => hup hW hA2)
  have HM := Lib.hid hM
  have HMb := Lib.hid hMb
  have HMs := Lib.hid hMs
  have HG := Lib.hid hg
  have HFG := Lib.hid hfg
  have HFT := Lib.hid hft
  obtain ⟨r0, hr0⟩ : ∃ g', g' = rightF nameB g := ⟨_, rfl⟩
  obtain ⟨r1, hr1⟩ : ∃ g', g' = rightF nameB t := ⟨_, rfl⟩
  have HIN := Lib.hid (show instF nameB g t = (r0 && r1 && (fits [] g t).1) by unfold instF; rw [hr0, hr1])
  rw [← hr0] at HR0
  rw [← hr1] at HR1
  unfold tv at *
  clear hA1 hA2 hM hbx hby hMs hMb hup hfg hft hng hnt hr0 hr1 hg ht
  go_enter Tryd.func12, Tryd.ntmps12
  go_wp2_with fail
  refine (HR0.out _ HM.out.symm).mono ?_
  rintro e w1 ⟨rfl, hb⟩
  have HB1 := Lib.hid (show Below M.heap.size M w1 by first | exact hb | (rw [HM.out]; exact hb) | (rw [← HM.out] at hb; exact hb))
  clear hb HR0
  obtain ⟨⟨x0, x1, x2, x3⟩, y0, y1, y2, y3⟩ := HX.out w1 HB1.out
  cases r0
  case false =>
    go_wp2
    go_ret
    rw [HIN.out]
    exact ⟨rfl, HMb.out.trans (HB1.out.mono HMb.out.size)⟩
  go_wp2_with fail
  refine (HR1.out w1 HB1.out).mono ?_
  rintro e w2 ⟨rfl, hb⟩
  have HB2 := Lib.hid (HB1.out.trans (hb.mono HB1.out.size))
  clear hb
  obtain ⟨⟨x0, x1, x2, x3⟩, y0, y1, y2, y3⟩ := HX.out w2 HB2.out
  cases r1
  case false =>
    go_wp2
    go_ret
    rw [HIN.out]
    exact ⟨rfl, HMb.out.trans (HB2.out.mono HMb.out.size)⟩
  obtain ⟨W3, hW3⟩ : ∃ W3, W3 = (w2.alloc (.cells #[] 3)).alloc (.cells #[] 24) := ⟨_, rfl⟩
  have hb23 : Below w2.heap.size w2 W3 := by rw [hW3]; exact ((Below.refl _ _).alloc (Nat.le_refl _) _).alloc (by simp) _
  have hn3 : IRow w2.heap.size [] (.slice (some ⟨w2.heap.size, 0, none⟩) 0 0) W3 := by rw [hW3]; exact (IRow.empty w2).alloc _
  have ht3 : TRow w2.heap.size [] (.slice (some ⟨w2.heap.size + 1, 0, none⟩) 0 0) W3 := by
    have h := Tys.empty w2.heap.size (fun g => g < w2.heap.size) (w2.alloc (.cells #[] 3)) (by simp)
    rw [← hW3, show (w2.alloc (.cells #[] 3)).heap.size = w2.heap.size + 1 by simp] at h
    exact h
  have HMA := Lib.hid (match_any g.wt g t [] _ _ _ _ w2.heap.size W3 (Nat.le_refl _) HFG.out HFT.out (by simp) (by have := HG.out; simp; omega) hn3 ht3 hb23.size ((HU1.out w2 HB2.out).same fun g' hg' => hb23.block g' hg') ((HU2.out w2 HB2.out).same fun g' hg' => hb23.block g' hg'))
  have HIR := Lib.hid hn3
  have HTR := Lib.hid ht3
  have HW3 := Lib.hid hW3
  have HB23 := Lib.hid hb23
  unfold MatchPost tv at HMA
  have hz0 : w.heap.size < w2.heap.size := by have := HMs.out; have := HB2.out.size; omega
  have hz1 : w.heap.size + 1 < w2.heap.size := by have := HMs.out; have := HB2.out.size; omega
  clear hb23 hn3 ht3 hW3
  go_wp2_with fail
  rw [← HW3.out]
  with_reducible refine HMA.out.mono ?_
  rintro e w4 ⟨a, b, rfl, -, -, hw⟩
  have hb4 : Below w2.heap.size W3 w4 := ⟨hw.out.os, hw.out.tape, hw.out.output, hw.out.size, fun q hq => hw.out.block q (by have := HB23.out.size; omega) (fun e => by have := (HIR.out.lt _ e).1; omega) (fun e => by have := (TRow.lt HTR.out _ e).1; omega)⟩
  have HB4 := Lib.hid (HB2.out.trans ((HB23.out.trans hb4).mono HB2.out.size))
  clear hb4 hw
  go_wp2
  go_ret
  rw [HIN.out]
  exact ⟨by simp, HMb.out.trans (HB4.out.mono HMb.out.size)⟩
set_option maxHeartbeats 8000000 in
theorem typesInstances_walk (v0 : Value) (g : Ty) (v1 : Value) (t : Ty) (w : World) (h0 : ArgTy w v0 g) (h1 : ArgTy w v1 t) (hT : Tabs w) : Calls Tryd.prog 3 #[v0, v1] w (TruePost w) := by
  obtain ⟨s0, rfl, hA0, hf0, hn0⟩ := h0
  obtain ⟨s1, rfl, hA1, hf1, hn1⟩ := h1
  obtain ⟨A0, k0, rfl, -⟩ := hA0.form
  obtain ⟨A1, k1, rfl, -⟩ := hA1.form
  obtain ⟨M, hM, hx0, hx1, hMs, hMb⟩ := two_boxes w g t (.slice A0 g.args.length k0) (.slice A1 t.args.length k1) 24
  have hup : ∀ {W : World} {ls : List Ty} {v : Value}, Below M.heap.size M W → IsA w (Old w) ls v → IsA W (Old W) ls v := fun hW h => h.after (hMb.trans (hW.mono hMb.size))
  have HUG := Lib.hid (fun W (hW : Below M.heap.size M W) => hup hW hA0)
  have HUT := Lib.hid (fun W (hW : Below M.heap.size M W) => hup hW hA1)
  have HAL := Lib.hid (fun W (hW : W = M) => hW ▸ alive_at hT hMb)
  have HG0 := Lib.hid (fun W (hW : Below M.heap.size M W) => great_any g _ W hf0 (hup hW hA0))
  have HG1 := Lib.hid (fun W (hW : Below M.heap.size M W) => great_any t _ W hf1 (hup hW hA1))
  have HCG := Lib.hid (fun W (hW : Below M.heap.size M W) => copyType_any g.wt g _ W (Nat.le_refl _) hf0 (hup hW hA0))
  have HCT := Lib.hid (fun W (hW : Below M.heap.size M W) => copyType_any t.wt t _ W (Nat.le_refl _) hf1 (hup hW hA1))
  unfold NewT at HCG HCT
  unfold tv at *
  have HX := Lib.hid (fun W (hW : Below M.heap.size M W) => And.intro (box_at hx0 (by omega) hW) (box_at hx1 (by omega) hW))
  have HM := Lib.hid hM
  have HMb := Lib.hid hMb
  have HMs := Lib.hid hMs
  have HF0 := Lib.hid hf0
  have HF1 := Lib.hid hf1
  have HNO := Lib.hid hn0
  obtain ⟨ga, hga⟩ : ∃ x, x = greatF g := ⟨_, rfl⟩
  obtain ⟨gb, hgb⟩ : ∃ x, x = greatF t := ⟨_, rfl⟩
  rw [← hga] at HG0
  rw [← hgb] at HG1
  have HGA := Lib.hid hga
  have HGB := Lib.hid hgb
  clear hga hgb hA0 hA1 hf0 hf1 hn0 hn1 hx0 hx1 hM hMb hMs hup hT
  go_enter Tryd.func3, Tryd.ntmps3
  go_wp2_with fail
  refine (HAL.out _ HM.out.symm).mono ?_
  rintro e w1 ⟨rfl, hb⟩
  have HB1 := Lib.hid (show Below M.heap.size M w1 by first | exact hb | (rw [HM.out]; exact hb) | (rw [← HM.out] at hb; exact hb))
  clear hb HAL
  obtain ⟨⟨x0, x1, x2, x3⟩, y0, y1, y2, y3⟩ := HX.out w1 HB1.out
  go_wp2_with fail
  refine (HG0.out w1 HB1.out).mono ?_
  rintro e w2 ⟨rfl, hb⟩
  have HB2 := Lib.hid (HB1.out.trans (hb.mono HB1.out.size))
  clear hb
  obtain ⟨⟨x0, x1, x2, x3⟩, y0, y1, y2, y3⟩ := HX.out w2 HB2.out
  cases ga
  case true =>
    go_wp2
    go_ret
    exact ⟨rfl, HMb.out.trans (HB2.out.mono HMb.out.size)⟩
  go_wp2_with fail
  refine (HG1.out w2 HB2.out).mono ?_
  rintro e w2' ⟨rfl, hb⟩
  have HB2' := Lib.hid (HB2.out.trans (hb.mono HB2.out.size))
  clear hb
  obtain ⟨⟨x0, x1, x2, x3⟩, y0, y1, y2, y3⟩ := HX.out w2' HB2'.out
  cases gb
  case true =>
    go_wp2
    go_ret
    exact ⟨rfl, HMb.out.trans (HB2'.out.mono HMb.out.size)⟩
  have HSG := Lib.hid (small_of HF0.out HGA.out.symm)
  have HST := Lib.hid (small_of HF1.out HGB.out.symm)
  go_wp2_with fail
  refine (HCG.out w2' HB2'.out).mono ?_
  rintro e w3 ⟨Aa, ca, rfl, hia, hb⟩
  have HB3 := Lib.hid (HB2'.out.trans (hb.mono HB2'.out.size))
  obtain ⟨W3, hW3, hbx3, hs3, hb3⟩ := one_box w3 g (.slice Aa g.args.length ca) 24
  have HBX3 := Lib.hid (HB3.out.trans (hb3.mono HB3.out.size))
  have HIA := Lib.hid ((hia.out.new).after hb3)
  have HXA := Lib.hid hbx3
  have HS3 := Lib.hid hs3
  have HW3 := Lib.hid hW3
  obtain ⟨⟨x0, x1, x2, x3⟩, y0, y1, y2, y3⟩ := HX.out w3 HB3.out
  obtain ⟨hz0, hz1⟩ : w.heap.size < w3.heap.size ∧ w.heap.size + 1 < w3.heap.size := by have := HMs.out; have := HB3.out.size; omega
  clear hia hb hW3 hbx3 hs3 hb3
  go_wp2_with fail
  rw [← HW3.out]
  refine (HCT.out W3 HBX3.out).mono ?_
  rintro e w4 ⟨Ab, cb, rfl, hib, hb⟩
  have HB4 := Lib.hid (HBX3.out.trans (hb.mono HBX3.out.size))
  obtain ⟨W4, hW4, hbx4, hs4, hb4⟩ := one_box w4 t (.slice Ab t.args.length cb) 24
  have HBX4 := Lib.hid (HB4.out.trans (hb4.mono HB4.out.size))
  have HIA4 := Lib.hid ((HIA.out.after hb).after hb4)
  have HIB4 := Lib.hid ((hib.out.new).after hb4)
  have hsz := hb.size
  have hs3 := HS3.out
  have hXA4 := (HXA.out.keep hb (by omega)).keep hb4 (by omega)
  have hz3 : w3.heap.size < W4.heap.size := by omega
  have hz4 : w4.heap.size < W4.heap.size := by omega
  have HZ := Lib.hid (show ∀ W, RowKit.Hid (Below W4.heap.size W4 W) → W.cell? ⟨w3.heap.size, 0, none⟩ = some (.int .i64 g.kind) ∧ W.cell? ⟨w3.heap.size, 1, none⟩ = some (.int .i64 g.num) ∧ W.cell? ⟨w3.heap.size, 2, none⟩ = some (.string g.name) ∧ W.cell? ⟨w3.heap.size, 3, none⟩ = some (.slice Aa g.args.length ca) ∧ W.cell? ⟨w4.heap.size, 0, none⟩ = some (.int .i64 t.kind) ∧ W.cell? ⟨w4.heap.size, 1, none⟩ = some (.int .i64 t.num) ∧ W.cell? ⟨w4.heap.size, 2, none⟩ = some (.string t.name) ∧ W.cell? ⟨w4.heap.size, 3, none⟩ = some (.slice Ab t.args.length cb) ∧ W.cell? ⟨w.heap.size, 0, none⟩ = some (.int .i64 g.kind) ∧ W.cell? ⟨w.heap.size, 1, none⟩ = some (.int .i64 g.num) ∧ W.cell? ⟨w.heap.size, 2, none⟩ = some (.string g.name) ∧ W.cell? ⟨w.heap.size, 3, none⟩ = some (.slice A0 g.args.length k0) ∧ W.cell? ⟨w.heap.size + 1, 0, none⟩ = some (.int .i64 t.kind) ∧ W.cell? ⟨w.heap.size + 1, 1, none⟩ = some (.int .i64 t.num) ∧ W.cell? ⟨w.heap.size + 1, 2, none⟩ = some (.string t.name) ∧ W.cell? ⟨w.heap.size + 1, 3, none⟩ = some (.slice A1 t.args.length k1) ∧ RowKit.Hid (Below W4.heap.size W4 W) from fun W hW => by
    obtain ⟨p0, p1, p2, p3⟩ := box_at hXA4 hz3 hW.out
    obtain ⟨q0, q1, q2, q3⟩ := box_at hbx4 hz4 hW.out
    obtain ⟨⟨x0, x1, x2, x3⟩, y0, y1, y2, y3⟩ := HX.out W (HBX4.out.trans (hW.out.mono HBX4.out.size))
    exact ⟨p0, p1, p2, p3, q0, q1, q2, q3, x0, x1, x2, x3, y0, y1, y2, y3, hW⟩)
  have HW4 := Lib.hid hW4
  have hU : ∀ W, RowKit.Hid (Below W4.heap.size W4 W) → Below M.heap.size M W := fun W hW => HBX4.out.trans (hW.out.mono HBX4.out.size)
  obtain ⟨ii, hii⟩ : ∃ b, b = instF nameB g t := ⟨_, rfl⟩
  obtain ⟨ss, hss⟩ : ∃ b, b = sameF g t := ⟨_, rfl⟩
  have HJ1 := Lib.hid (fun W (hW : RowKit.Hid (Below W4.heap.size W4 W)) => (instance_any g t _ _ W HF0.out HF1.out HNO.out (HIA4.out.after hW.out) (HIB4.out.after hW.out)).mono fun e w' h => show e = .returned (.bool ii) ∧ RowKit.Hid (Below W.heap.size W w') from ⟨by rw [h.1, hii], Lib.hid h.2⟩)
  have HJ2 := Lib.hid (fun W (hW : RowKit.Hid (Below W4.heap.size W4 W)) => (rinst_any g t _ _ W HSG.out.1 HST.out.1 HF0.out HF1.out (fun p hp => (HSG.out.2 p hp).1) (fun p hp => (HST.out.2 p hp).1) (HUG.out W (hU W hW)) (HUT.out W (hU W hW))).mono fun e w' h => show e = .returned (.bool ii) ∧ RowKit.Hid (Below W.heap.size W w') from ⟨by rw [h.1, hii], Lib.hid h.2⟩)
  have HJ3 := Lib.hid (fun W (hW : RowKit.Hid (Below W4.heap.size W4 W)) => (same_any g.wt g t _ _ W (Nat.le_refl _) HF0.out (HIA4.out.after hW.out) (HIB4.out.after hW.out)).mono fun e w' h => show e = .returned (.bool ss) ∧ RowKit.Hid (Below W.heap.size W w') from ⟨by rw [h.1, hss], Lib.hid h.2⟩)
  have HJ4 := Lib.hid (fun W (hW : RowKit.Hid (Below W4.heap.size W4 W)) => (sameType_any g.wt g t _ _ W (Nat.le_refl _) HF0.out (HUG.out W (hU W hW)) (HUT.out W (hU W hW))).mono fun e w' h => show e = .returned (.bool ss) ∧ RowKit.Hid (Below W.heap.size W w') from ⟨by rw [h.1, hss], Lib.hid h.2⟩)
  have HJ5 := Lib.hid (fun W (hW : RowKit.Hid (Below W4.heap.size W4 W)) => (HCG.out W (hU W hW)).mono fun e w' h => show ∃ A c, e = .returned (.agg #[.int .i64 g.kind, .int .i64 g.num, .string g.name, .slice A g.args.length c]) ∧ RowKit.Hid (IsA w' (Old w') g.args (.slice A g.args.length c)) ∧ RowKit.Hid (Below W.heap.size W w') from by
        obtain ⟨A, c, h1, h2, h3⟩ := h
        exact ⟨A, c, h1, Lib.hid h2.out.new, Lib.hid h3⟩)
  have HJ6 := Lib.hid (fun W A c (hW : RowKit.Hid (Below W4.heap.size W4 W)) (hA : RowKit.Hid (IsA W (Old W) g.args (.slice A g.args.length c))) => (same_any g.wt g g _ _ W (Nat.le_refl _) HF0.out (HIA4.out.after hW.out) hA.out).mono fun e w' h => show e = .returned (.bool true) ∧ RowKit.Hid (Below W.heap.size W w') from ⟨by rw [h.1, (same_iff g g).2 rfl], Lib.hid h.2⟩)
  have HJ7 := Lib.hid (fun W (hW : RowKit.Hid (Below W4.heap.size W4 W)) => (sameType_any g.wt g g _ _ W (Nat.le_refl _) HF0.out (HIA4.out.after hW.out) (HUG.out W (hU W hW))).mono fun e w' h => show e = .returned (.bool true) ∧ RowKit.Hid (Below W.heap.size W w') from ⟨by rw [h.1, (same_iff g g).2 rfl], Lib.hid h.2⟩)
  have HJ8 := Lib.hid (fun W (hW : RowKit.Hid (Below W4.heap.size W4 W)) => (sameType_any t.wt t t _ _ W (Nat.le_refl _) HF1.out (HIB4.out.after hW.out) (HUT.out W (hU W hW))).mono fun e w' h => show e = .returned (.bool true) ∧ RowKit.Hid (Below W.heap.size W w') from ⟨by rw [h.1, (same_iff t t).2 rfl], Lib.hid h.2⟩)
  unfold tv at HJ1 HJ2 HJ3 HJ4 HJ6 HJ7 HJ8
  have hS0 : RowKit.Hid (Below W4.heap.size W4 W4.drew) := Lib.hid (Below.refl _ _).drew
  clear hii hss hU hz3 hz4 hXA4 hsz hs3 hW4 hbx4 hs4 hb4 hib hb HB1 HB2 HB2' HB3 HG0 HG1 HCG HCT
  obtain ⟨⟨x0, x1, x2, x3⟩, y0, y1, y2, y3⟩ := HX.out w4 HB4.out
  go_upto_region 7 with fail
  rw [← HW4.out]
  have bss : (ss == ss) = true := by simp
  have bii : (ii == ii) = true := by simp
  cases ii <;> cases ss
  all_goals
    go_region_held3 (fun W => W.cell? ⟨w3.heap.size, 0, none⟩ = some (.int .i64 g.kind) ∧ W.cell? ⟨w3.heap.size, 1, none⟩ = some (.int .i64 g.num) ∧ W.cell? ⟨w3.heap.size, 2, none⟩ = some (.string g.name) ∧ W.cell? ⟨w3.heap.size, 3, none⟩ = some (.slice Aa g.args.length ca) ∧ W.cell? ⟨w4.heap.size, 0, none⟩ = some (.int .i64 t.kind) ∧ W.cell? ⟨w4.heap.size, 1, none⟩ = some (.int .i64 t.num) ∧ W.cell? ⟨w4.heap.size, 2, none⟩ = some (.string t.name) ∧ W.cell? ⟨w4.heap.size, 3, none⟩ = some (.slice Ab t.args.length cb) ∧ W.cell? ⟨w.heap.size, 0, none⟩ = some (.int .i64 g.kind) ∧ W.cell? ⟨w.heap.size, 1, none⟩ = some (.int .i64 g.num) ∧ W.cell? ⟨w.heap.size, 2, none⟩ = some (.string g.name) ∧ W.cell? ⟨w.heap.size, 3, none⟩ = some (.slice A0 g.args.length k0) ∧ W.cell? ⟨w.heap.size + 1, 0, none⟩ = some (.int .i64 t.kind) ∧ W.cell? ⟨w.heap.size + 1, 1, none⟩ = some (.int .i64 t.num) ∧ W.cell? ⟨w.heap.size + 1, 2, none⟩ = some (.string t.name) ∧ W.cell? ⟨w.heap.size + 1, 3, none⟩ = some (.slice A1 t.args.length k1) ∧ RowKit.Hid (Below W4.heap.size W4 W)) (first | exact HZ.out _ hS0 | exact HZ.out _ ‹RowKit.Hid (Below W4.heap.size W4 _)› | exact HZ.out _ (keepW ‹RowKit.Hid (Below _ _ _)› ‹RowKit.Hid (Below W4.heap.size W4 _)›)) (first | (go_at_call 11; with_reducible (refine (HJ1.out _ ‹_›).mono ?_); rintro e wn ⟨rfl, hbn⟩; have hbk := keepW hbn ‹_›) | (go_at_call 12; with_reducible (refine (HJ2.out _ ‹_›).mono ?_); rintro e wn ⟨rfl, hbn⟩; have hbk := keepW hbn ‹_›) | (go_at_call 13; with_reducible (refine (HJ3.out _ ‹_›).mono ?_); rintro e wn ⟨rfl, hbn⟩; have hbk := keepW hbn ‹_›) | (go_at_call 14; with_reducible (refine (HJ4.out _ ‹_›).mono ?_); rintro e wn ⟨rfl, hbn⟩; have hbk := keepW hbn ‹_›) | (go_at_call 10; with_reducible (refine (HJ5.out _ ‹_›).mono ?_); rintro e wn ⟨Ac, cc, rfl, hic, hbn⟩; have hbk := keepW hbn ‹_›) | (go_at_call 13; with_reducible (refine (HJ6.out _ _ _ ‹_› ‹_›).mono ?_); rintro e wn ⟨rfl, hbn⟩; have hbk := keepW hbn ‹_›) | (go_at_call 14; with_reducible (refine (HJ7.out _ ‹_›).mono ?_); rintro e wn ⟨rfl, hbn⟩; have hbk := keepW hbn ‹_›) | (go_at_call 14; with_reducible (refine (HJ8.out _ ‹_›).mono ?_); rintro e wn ⟨rfl, hbn⟩; have hbk := keepW hbn ‹_›))
  all_goals
    have hbk2 := RowKit.Hid.out ‹RowKit.Hid (Below W4.heap.size W4 _)›
    go_wp2
    go_ret
    exact ⟨rfl, HMb.out.trans ((HBX4.out.trans (hbk2.mono HBX4.out.size)).mono HMb.out.size)⟩
end Go.Proofs.YtmpmibebkflaiaaDoor
