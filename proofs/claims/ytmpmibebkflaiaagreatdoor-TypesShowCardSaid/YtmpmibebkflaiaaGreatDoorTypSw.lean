/- TypesShow's walk. -/
import Derived.Test.YtmpmibebkflaiaaGreatDoorTypSd
import Derived.Test.YtmpmibebkflaiaaGreatDoorTypTab
namespace Go.Proofs.YtmpmibebkflaiaaGreatDoor
open Go.RowKit Go.Lib Go.Shelf Go.Sort Tp
set_option maxRecDepth 100000
set_option linter.unusedVariables false
set_option linter.unusedSectionVars false

def closeD (t : Ty) : Ty := if rightF nameB t then closeF t else .mk 0 0 ⟨#[]⟩ []
def closeE (t : Ty) : Int := if rightF nameB t then 0 else 120
theorem closePost_d {w w' : World} {t : Ty} {e : Ending} (h : ClosePost w t e w') : (∃ A c, e = .returned (.tuple #[tv (closeD t) (.slice A (closeD t).args.length c), .int .i64 (closeE t)]) ∧ RowKit.Hid (IsA w' (Old w') (closeD t).args (.slice A (closeD t).args.length c))) ∧ Below w.heap.size w w' := by
  obtain ⟨h, hb⟩ := h
  refine ⟨?_, hb⟩
  unfold closeD closeE
  by_cases hr : rightF nameB t = true
  · rw [if_pos hr] at h
    rw [if_pos hr, if_pos hr]
    obtain ⟨A, c, h1, h2⟩ := h
    exact ⟨A, c, h1, Lib.hid h2.out.new⟩
  · rw [if_neg hr] at h
    rw [if_neg hr, if_neg hr]
    exact ⟨none, 0, h, Lib.hid (IsA.nil _ _ _ _)⟩
theorem rclosePost_d {w w' : World} {t : Ty} {e : Ending} (h : RClosePost w t e w') : (∃ A c, e = .returned (.tuple #[tv (closeD t) (.slice A (closeD t).args.length c), .int .i64 (closeE t)]) ∧ RowKit.Hid (IsA w' (Old w') (closeD t).args (.slice A (closeD t).args.length c))) ∧ Below w.heap.size w w' := by
  obtain ⟨h, hb⟩ := h
  refine ⟨?_, hb⟩
  unfold closeD closeE
  by_cases hr : rightF nameB t = true
  · rw [if_pos hr] at h
    rw [if_pos hr, if_pos hr]
    exact h
  · rw [if_neg hr] at h
    rw [if_neg hr, if_neg hr]
    exact ⟨none, 0, h, Lib.hid (IsA.nil _ _ _ _)⟩
theorem fit_closeD {t : Ty} (hf : fit t) : fit (closeD t) := by
  unfold closeD
  split
  · exact fit_close hf ‹_›
  · intro p hp
    have : p = .mk 0 0 ⟨#[]⟩ [] := by simpa [parts_eq, partss_eq, Ty.args] using hp
    subst this
    exact ⟨Nat.zero_le _, Nat.zero_le _⟩
set_option maxHeartbeats 8000000 in
theorem typesShow_walk (v0 : Value) (t : Ty) (w : World) (h0 : ArgTy w v0 t) (hT : Tabs w) : Calls Tryz.prog 3 #[v0] w (TruePost w) := by
  obtain ⟨s0, rfl, hA0, hf0, hn0⟩ := h0
  obtain ⟨A0, k0, rfl, -⟩ := hA0.form
  obtain ⟨M, hM, hx0, hMs, hMb⟩ := one_box w t (.slice A0 t.args.length k0) 24
  have hup : ∀ {W : World} {ls : List Ty} {v : Value}, Below M.heap.size M W → IsA w (Old w) ls v → IsA W (Old W) ls v := fun hW h => h.after (hMb.trans (hW.mono hMb.size))
  have HTB := Lib.hid (fun W (hW : Below M.heap.size M W) => show PowB W.heap.size W from by
    have hb := hMb.trans (hW.mono hMb.size)
    exact PowB.more (hT.1.on hb) hb.size)
  have HUP := Lib.hid (fun W (hW : Below M.heap.size M W) => hup hW hA0)
  have HAL := Lib.hid (fun W (hW : W = M) => hW ▸ alive_at hT hMb)
  have HG0 := Lib.hid (fun W (hW : Below M.heap.size M W) => great_any t _ W hf0 (hup hW hA0))
  have HCP := Lib.hid (fun W (hW : Below M.heap.size M W) => copyType_any t.wt t _ W (Nat.le_refl _) hf0 (hup hW hA0))
  have HC0 := Lib.hid (fun W s (hA : IsA W (Old W) t.args s) => (close_any t s W hf0 hn0 hA).mono fun e w' h => closePost_d h)
  have hfD := fit_closeD hf0
  obtain ⟨D, hD⟩ : ∃ D, D = closeD t := ⟨_, rfl⟩
  obtain ⟨E, hE⟩ : ∃ D, D = closeE t := ⟨_, rfl⟩
  rw [← hD] at hfD
  rw [← hD, ← hE] at HC0
  unfold NewT at HCP
  have HX := Lib.hid (fun W (hW : Below M.heap.size M W) => box_at hx0 (by omega) hW)
  have HM := Lib.hid hM
  have HMb := Lib.hid hMb
  have HMs := Lib.hid hMs
  have HF := Lib.hid hf0
  have HFD := Lib.hid hfD
  have HDE := Lib.hid (And.intro hD hE)
  unfold tv at *
  obtain ⟨ga, hga⟩ : ∃ g, g = greatF t := ⟨_, rfl⟩
  rw [← hga] at HG0
  have HGG := Lib.hid hga
  clear hga hA0 hf0 hn0 hx0 hM hMb hMs hup hT hD hE hfD
  go_enter Tryz.func3, Tryz.ntmps3
  go_wp2_with fail
  refine (HAL.out _ HM.out.symm).mono ?_
  rintro e w1 ⟨rfl, hb⟩
  have HB1 := Lib.hid (show Below M.heap.size M w1 by first | exact hb | (rw [HM.out]; exact hb) | (rw [← HM.out] at hb; exact hb))
  clear hb HAL
  obtain ⟨x0, x1, x2, x3⟩ := HX.out w1 HB1.out
  go_wp2_with fail
  refine (HG0.out w1 HB1.out).mono ?_
  rintro e w2 ⟨rfl, hb⟩
  have HB2 := Lib.hid (HB1.out.trans (hb.mono HB1.out.size))
  clear hb
  obtain ⟨x0, x1, x2, x3⟩ := HX.out w2 HB2.out
  cases ga
  case true =>
    go_wp2
    go_ret
    exact ⟨rfl, HMb.out.trans (HB2.out.mono HMb.out.size)⟩
  have HSM := Lib.hid (small_of HF.out HGG.out.symm)
  have HRC := Lib.hid (fun W (hW : Below M.heap.size M W) => (rclose_any t _ W HSM.out.1 HF.out (fun p hp => (HSM.out.2 p hp).1) (HUP.out W hW)).mono fun e w' h => rclosePost_d h)
  rw [← HDE.out.1, ← HDE.out.2] at HRC
  unfold tv at HRC
  go_wp2_with fail
  refine (HCP.out w2 HB2.out).mono ?_
  rintro e w3 ⟨Ao, co, rfl, hio, hb⟩
  have HB3 := Lib.hid (HB2.out.trans (hb.mono HB2.out.size))
  obtain ⟨W3, hW3, hbx3, hs3, hb3⟩ := one_box w3 t (.slice Ao t.args.length co) 24
  have HBX3 := Lib.hid (HB3.out.trans (hb3.mono HB3.out.size))
  have HIO := Lib.hid ((hio.out.new).after hb3)
  have HXO := Lib.hid hbx3
  have HS3 := Lib.hid hs3
  have HW3 := Lib.hid hW3
  have HCL := Lib.hid (HC0.out W3 _ HIO.out)
  obtain ⟨z0, z1, z2, z3⟩ := hbx3
  clear hio hb hW3 hs3 hb3
  go_upto_region 6 with fail
  rw [← HW3.out]
  go_wp2_with fail
  refine HCL.out.mono ?_
  rintro e w4 ⟨⟨Aa, ca, rfl, hia⟩, hb⟩
  have HB4 := Lib.hid (HBX3.out.trans (hb.mono HBX3.out.size))
  obtain ⟨W4, hW4, hbx4, hs4, hb4⟩ := one_box w4 D (.slice Aa D.args.length ca) 24
  have HBX4 := Lib.hid (HB4.out.trans (hb4.mono HB4.out.size))
  have HIA := Lib.hid (hia.out.after hb4)
  have HIO4 := Lib.hid ((HIO.out.after hb).after hb4)
  have hsz4 := hb.size
  have hs3' := HS3.out
  have HXO4 := Lib.hid ((HXO.out.keep hb (by omega)).keep hb4 (by omega))
  have HXA := Lib.hid hbx4
  have HS4 := Lib.hid (show W4.heap.size = w4.heap.size + 1 ∧ w3.heap.size < w4.heap.size from ⟨hs4, by omega⟩)
  have HW4 := Lib.hid hW4
  obtain ⟨x0, x1, x2, x3⟩ := HX.out W4 HBX4.out
  clear hia hb hW4 hbx4 hs4 hb4 hsz4 hs3'
  go_upto_region 7 with fail
  rw [← HW4.out]
  go_wp2_with fail
  refine (HRC.out W4 HBX4.out).mono ?_
  rintro e w5 ⟨⟨Ab, cb, rfl, hib⟩, hb⟩
  have HB5 := Lib.hid (HBX4.out.trans (hb.mono HBX4.out.size))
  obtain ⟨W5, hW5, hbx5, hs5, hb5⟩ := one_box w5 D (.slice Ab D.args.length cb) 24
  have HBX5 := Lib.hid (HB5.out.trans (hb5.mono HB5.out.size))
  have HIB := Lib.hid (hib.out.after hb5)
  have HIA5 := Lib.hid ((HIA.out.after hb).after hb5)
  have HIO5 := Lib.hid ((HIO4.out.after hb).after hb5)
  have hsz5 := hb.size
  have hs4' := HS4.out
  have hXO5 := (HXO4.out.keep hb (by omega)).keep hb5 (by omega)
  have hXA5 := (HXA.out.keep hb (by omega)).keep hb5 (by omega)
  have hz3 : w3.heap.size < W5.heap.size := by omega
  have hz4 : w4.heap.size < W5.heap.size := by omega
  have hz5 : w5.heap.size < W5.heap.size := by omega
  have HZ := Lib.hid (show ∀ W, RowKit.Hid (Below W5.heap.size W5 W) → W.cell? ⟨w3.heap.size, 0, none⟩ = some (.int .i64 t.kind) ∧ W.cell? ⟨w3.heap.size, 1, none⟩ = some (.int .i64 t.num) ∧ W.cell? ⟨w3.heap.size, 2, none⟩ = some (.string t.name) ∧ W.cell? ⟨w3.heap.size, 3, none⟩ = some (.slice Ao t.args.length co) ∧ W.cell? ⟨w4.heap.size, 0, none⟩ = some (.int .i64 D.kind) ∧ W.cell? ⟨w4.heap.size, 1, none⟩ = some (.int .i64 D.num) ∧ W.cell? ⟨w4.heap.size, 2, none⟩ = some (.string D.name) ∧ W.cell? ⟨w4.heap.size, 3, none⟩ = some (.slice Aa D.args.length ca) ∧ W.cell? ⟨w5.heap.size, 0, none⟩ = some (.int .i64 D.kind) ∧ W.cell? ⟨w5.heap.size, 1, none⟩ = some (.int .i64 D.num) ∧ W.cell? ⟨w5.heap.size, 2, none⟩ = some (.string D.name) ∧ W.cell? ⟨w5.heap.size, 3, none⟩ = some (.slice Ab D.args.length cb) ∧ W.cell? ⟨w.heap.size, 0, none⟩ = some (.int .i64 t.kind) ∧ W.cell? ⟨w.heap.size, 1, none⟩ = some (.int .i64 t.num) ∧ W.cell? ⟨w.heap.size, 2, none⟩ = some (.string t.name) ∧ W.cell? ⟨w.heap.size, 3, none⟩ = some (.slice A0 t.args.length k0) ∧ RowKit.Hid (Below W5.heap.size W5 W) from fun W hW => by
    obtain ⟨p0, p1, p2, p3⟩ := box_at hXO5 hz3 hW.out
    obtain ⟨q0, q1, q2, q3⟩ := box_at hXA5 hz4 hW.out
    obtain ⟨u0, u1, u2, u3⟩ := box_at hbx5 hz5 hW.out
    obtain ⟨x0, x1, x2, x3⟩ := HX.out W (HBX5.out.trans (hW.out.mono HBX5.out.size))
    exact ⟨p0, p1, p2, p3, q0, q1, q2, q3, u0, u1, u2, u3, x0, x1, x2, x3, hW⟩)
  have HW5 := Lib.hid hW5
  have hU : ∀ W, RowKit.Hid (Below W5.heap.size W5 W) → Below M.heap.size M W := fun W hW => HBX5.out.trans (hW.out.mono HBX5.out.size)
  have HU := Lib.hid hU
  obtain ⟨r0, hr0⟩ : ∃ b, b = rightF nameB t := ⟨_, rfl⟩
  have HJ1 := Lib.hid (fun W (hW : RowKit.Hid (Below W5.heap.size W5 W)) => (right_any t _ W HF.out (HIO5.out.after hW.out)).mono fun e w' h => show e = .returned (.bool r0) ∧ RowKit.Hid (Below W.heap.size W w') from ⟨by rw [h.1, hr0], Lib.hid h.2⟩)
  have HJ2 := Lib.hid (fun W (hW : RowKit.Hid (Below W5.heap.size W5 W)) => (rRight_any t _ W (by have := HSM.out.1; omega) HF.out (fun p hp => (HSM.out.2 p hp).1) (HUP.out W (hU W hW))).mono fun e w' h => show e = .returned (.bool r0) ∧ RowKit.Hid (Below W.heap.size W w') from ⟨by rw [h.1, hr0], Lib.hid h.2⟩)
  have HJ3 := Lib.hid (fun W (hW : RowKit.Hid (Below W5.heap.size W5 W)) => (sameType_any D.wt D D _ _ W (Nat.le_refl _) HFD.out (HIA5.out.after hW.out) (HIB.out.after hW.out)).mono fun e w' h => show e = .returned (.bool true) ∧ RowKit.Hid (Below W.heap.size W w') from ⟨by rw [h.1, (same_iff D D).2 rfl], Lib.hid h.2⟩)
  have HSO := Lib.hid (fun W (hW : RowKit.Hid (Below W5.heap.size W5 W)) => show_any t _ W HF.out (fun h => by have := write_len t (right_ok h).1 (fun p hp => (HSM.out.2 p hp).1); have := (right_ok h).2; omega) (HIO5.out.after hW.out) (HTB.out W (hU W hW)))
  have HSR := Lib.hid (fun W (hW : RowKit.Hid (Below W5.heap.size W5 W)) => rShow_any t _ W HSM.out.1 HF.out (fun p hp => (HSM.out.2 p hp).1) (HUP.out W (hU W hW)))
  have HST := Lib.hid (fun W (hW : RowKit.Hid (Below W5.heap.size W5 W)) => sameType_any t.wt t t _ _ W (Nat.le_refl _) HF.out (HIO5.out.after hW.out) (HUP.out W (hU W hW)))
  rw [(same_iff t t).2 rfl] at HST
  obtain ⟨U, hUs⟩ : ∃ b, b = (showF t).1 := ⟨_, rfl⟩
  obtain ⟨F, hFs⟩ : ∃ b, b = (showF t).2 := ⟨_, rfl⟩
  rw [← hUs, ← hFs] at HSO HSR
  unfold tv at HJ1 HJ2 HJ3 HSO HSR HST
  have hS0 : RowKit.Hid (Below W5.heap.size W5 W5.drew) := Lib.hid (Below.refl _ _).drew
  clear hr0 hU hz3 hz4 hz5 hXO5 hXA5 hsz5 hs4' hW5 hbx5 hs5 hb5 hib hb hUs hFs
  go_upto_region 8 with fail
  rw [← HW5.out]
  cases r0
  all_goals
    go_region_held3 (fun W => W.cell? ⟨w3.heap.size, 0, none⟩ = some (.int .i64 t.kind) ∧ W.cell? ⟨w3.heap.size, 1, none⟩ = some (.int .i64 t.num) ∧ W.cell? ⟨w3.heap.size, 2, none⟩ = some (.string t.name) ∧ W.cell? ⟨w3.heap.size, 3, none⟩ = some (.slice Ao t.args.length co) ∧ W.cell? ⟨w4.heap.size, 0, none⟩ = some (.int .i64 D.kind) ∧ W.cell? ⟨w4.heap.size, 1, none⟩ = some (.int .i64 D.num) ∧ W.cell? ⟨w4.heap.size, 2, none⟩ = some (.string D.name) ∧ W.cell? ⟨w4.heap.size, 3, none⟩ = some (.slice Aa D.args.length ca) ∧ W.cell? ⟨w5.heap.size, 0, none⟩ = some (.int .i64 D.kind) ∧ W.cell? ⟨w5.heap.size, 1, none⟩ = some (.int .i64 D.num) ∧ W.cell? ⟨w5.heap.size, 2, none⟩ = some (.string D.name) ∧ W.cell? ⟨w5.heap.size, 3, none⟩ = some (.slice Ab D.args.length cb) ∧ W.cell? ⟨w.heap.size, 0, none⟩ = some (.int .i64 t.kind) ∧ W.cell? ⟨w.heap.size, 1, none⟩ = some (.int .i64 t.num) ∧ W.cell? ⟨w.heap.size, 2, none⟩ = some (.string t.name) ∧ W.cell? ⟨w.heap.size, 3, none⟩ = some (.slice A0 t.args.length k0) ∧ RowKit.Hid (Below W5.heap.size W5 W)) (first | exact HZ.out _ hS0 | exact HZ.out _ ‹RowKit.Hid (Below W5.heap.size W5 _)› | exact HZ.out _ (keepW ‹RowKit.Hid (Below _ _ _)› ‹RowKit.Hid (Below W5.heap.size W5 _)›)) (first | (go_at_call 9; with_reducible (refine (HJ1.out _ ‹_›).mono ?_); rintro e wn ⟨rfl, hbn⟩; have hbk := keepW hbn ‹_›) | (go_at_call 10; with_reducible (refine (HJ2.out _ ‹_›).mono ?_); rintro e wn ⟨rfl, hbn⟩; have hbk := keepW hbn ‹_›) | (go_at_call 11; with_reducible (refine (HJ3.out _ ‹_›).mono ?_); rintro e wn ⟨rfl, hbn⟩; have hbk := keepW hbn ‹_›))
  all_goals
    obtain ⟨p0, p1, p2, p3, -, -, -, -, -, -, -, -, x0, x1, x2, x3, -⟩ := HZ.out wn hbk
    go_wp2_with fail
    refine (HSO.out wn hbk).mono ?_
    rintro e wa ⟨rfl, hb⟩
    have hba := keepW (Lib.hid hb) hbk
    clear hb
    obtain ⟨p0, p1, p2, p3, -, -, -, -, -, -, -, -, x0, x1, x2, x3, -⟩ := HZ.out wa hba
    go_wp2_with fail
    refine (HSR.out wa hba).mono ?_
    rintro e wb ⟨rfl, hb⟩
    have hbb := keepW (Lib.hid hb) hba
    clear hb
    obtain ⟨p0, p1, p2, p3, -, -, -, -, -, -, -, -, x0, x1, x2, x3, -⟩ := HZ.out wb hbb
    go_wp2_with fail
    refine (HST.out wb hbb).mono ?_
    rintro e wc ⟨rfl, hb⟩
    have hbc := keepW (Lib.hid hb) hbb
    clear hb
    go_wp2
    go_ret
    exact ⟨rfl, HMb.out.trans ((HU.out wc hbc).mono HMb.out.size)⟩
end Go.Proofs.YtmpmibebkflaiaaGreatDoor
