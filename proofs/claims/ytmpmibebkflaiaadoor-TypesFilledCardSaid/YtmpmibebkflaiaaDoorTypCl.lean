/- TypesClosed's walk. -/
import Derived.Test.YtmpmibebkflaiaaDoorTypVa
namespace Go.Proofs.YtmpmibebkflaiaaDoor
open Go.RowKit Go.Lib Go.Shelf Go.Sort Tp
set_option maxRecDepth 100000
set_option linter.unusedVariables false
set_option linter.unusedSectionVars false

theorem IRow.empty (w : World) : IRow w.heap.size [] (.slice (some ⟨w.heap.size, 0, none⟩) 0 0) (w.alloc (.cells #[] 3)) := World.ownsRow_lit w #[] 0 (Nat.le_refl _) (by unfold maxLen; omega) rfl
theorem box_zero (w : World) (e : TypeId) : ∃ M, M = w.alloc (.cells #[.int .i64 0, .int .i64 0, .string ⟨#[]⟩, .slice none 0 0] e) ∧
    BoxT (.mk 0 0 ⟨#[]⟩ []) (.slice none 0 0) w.heap.size M ∧ M.heap.size = w.heap.size + 1 ∧ Below w.heap.size w M := one_box w (.mk 0 0 ⟨#[]⟩ []) (.slice none 0 0) e
set_option maxHeartbeats 8000000 in
theorem typesClosed_walk (v0 : Value) (t : Ty) (w : World) (h0 : ArgTy w v0 t) (hT : Tabs w) : Calls Tryd.prog 7 #[v0] w (TruePost w) := by
  obtain ⟨s0, rfl, hA0, hf0, hn0⟩ := h0
  obtain ⟨A0, k0, rfl, -⟩ := hA0.form
  obtain ⟨M, hM, hx0, hMs, hMb⟩ := one_box w t (.slice A0 t.args.length k0) 24
  have hup : ∀ {W : World} {ls : List Ty} {v : Value}, Below M.heap.size M W → IsA w (Old w) ls v → IsA W (Old W) ls v := fun hW h => h.after (hMb.trans (hW.mono hMb.size))
  have HUP := Lib.hid (fun W (hW : Below M.heap.size M W) => hup hW hA0)
  have HAL := Lib.hid (fun W (hW : W = M) => hW ▸ alive_at hT hMb)
  have HG0 := Lib.hid (fun W (hW : Below M.heap.size M W) => great_any t _ W hf0 (hup hW hA0))
  have HCP := Lib.hid (fun W (hW : Below M.heap.size M W) => copyType_any t.wt t _ W (Nat.le_refl _) hf0 (hup hW hA0))
  have HR0 := Lib.hid (fun W (hW : Below M.heap.size M W) => right_any t _ W hf0 (hup hW hA0))
  have HC0 := Lib.hid (fun W s (hA : IsA W (Old W) t.args s) => close_any t s W hf0 hn0 hA)
  unfold ClosePost at HC0
  unfold NewT at HCP
  unfold tv at *
  have HX := Lib.hid (fun W (hW : Below M.heap.size M W) => box_at hx0 (by omega) hW)
  have HM := Lib.hid hM
  have HMb := Lib.hid hMb
  have HMs := Lib.hid hMs
  have HF := Lib.hid hf0
  have HNO := Lib.hid hn0
  obtain ⟨ga, hga⟩ : ∃ g, g = greatF t := ⟨_, rfl⟩
  rw [← hga] at HG0
  obtain ⟨r0, hr0⟩ : ∃ g, g = rightF nameB t := ⟨_, rfl⟩
  rw [← hr0] at HR0 HC0
  have HRR := Lib.hid hr0
  have HGG := Lib.hid hga
  clear hga hr0 hA0 hf0 hn0 hx0 hM hMb hMs hup hT
  go_enter Tryd.func7, Tryd.ntmps7
  go_wp2_with fail
  refine (HAL.out _ HM.out.symm).mono ?_
  rintro e w1 ⟨rfl, hb⟩
  have HB1 := Lib.hid (show Below M.heap.size M w1 by first | exact hb | (rw [HM.out]; exact hb) | (rw [← HM.out] at hb; exact hb))
  clear hb HAL
  obtain ⟨x0, x1, x2, x3⟩ := HX.out w1 HB1.out
  go_wp2_with fail
  refine (HG0.out w1 HB1.out).mono ?_
  rintro e w2 ⟨rfl, hb⟩
  have HB2 := Lib.hid (HB1.out.trans (hb.mono HB1.out.size))
  clear hb
  obtain ⟨x0, x1, x2, x3⟩ := HX.out w2 HB2.out
  cases ga
  case true =>
    go_wp2
    go_ret
    exact ⟨rfl, HMb.out.trans (HB2.out.mono HMb.out.size)⟩
  go_wp2_with fail
  refine (HCP.out w2 HB2.out).mono ?_
  rintro e w3 ⟨Ac, cc, rfl, hic, hb⟩
  have HB3 := Lib.hid (HB2.out.trans (hb.mono HB2.out.size))
  have HC1 := Lib.hid (HC0.out w3 _ hic.out.new)
  clear hb hic
  obtain ⟨x0, x1, x2, x3⟩ := HX.out w3 HB3.out
  cases r0
  case false =>
    go_wp2_with fail
    refine HC1.out.mono ?_
    rintro e w4 ⟨hx, hb⟩
    rw [if_neg (by simp)] at hx
    unfold noT at hx
    subst hx
    have HB4 := Lib.hid (HB3.out.trans (hb.mono HB3.out.size))
    obtain ⟨W4, hW4, hbx4, hs4, hb4⟩ := box_zero w4 24
    have HBX4 := Lib.hid (HB4.out.trans (hb4.mono HB4.out.size))
    have HW4 := Lib.hid hW4
    have hbb := hbx4
    obtain ⟨z0, z1, z2, z3⟩ := hbx4
    simp only [Ty.kind, Ty.num, Ty.name] at z0 z1 z2 z3
    have HR1 := Lib.hid (HR0.out W4 HBX4.out)
    obtain ⟨x0, x1, x2, x3⟩ := HX.out W4 HBX4.out
    clear hb hb4 hbb hs4 hW4
    go_upto_region 7 with fail
    rw [← HW4.out]
    go_wp2_with fail
    refine HR1.out.mono ?_
    rintro e w5 ⟨rfl, hb⟩
    have HB5 := Lib.hid (HBX4.out.trans (hb.mono HBX4.out.size))
    clear hb
    go_wp2
    go_ret
    exact ⟨rfl, HMb.out.trans (HB5.out.mono HMb.out.size)⟩
  have hr := HRR.out.symm
  have hfU := fit_close HF.out hr
  have hrU := close_ok hr
  have hnU := numsOk_ok (right_ok hrU).1
  have hcU := close_close hr
  have hvU := vars_close hr
  have hi := inst_close hr
  obtain ⟨U, hU⟩ : ∃ U, U = closeF t := ⟨_, rfl⟩
  rw [← hU] at hfU hrU hnU hcU hvU hi HC1
  obtain ⟨m, hm⟩ : ∃ m, m = (vars [] t).length := ⟨_, rfl⟩
  rw [← hm] at hvU
  have hmU : m ≤ 300 := by
    have h1 := vars_len t (right_ok hr).1 []
    have h2 := (right_ok hr).2
    simp at h1
    omega
  have hwU := (right_ok hrU).2
  have hoU := (right_ok hrU).1
  have HCU := Lib.hid (fun W s (hA : IsA W (Old W) U.args s) => close_any U s W hfU hnU hA)
  have HSU := Lib.hid (fun W s s' (hA : IsA W (Old W) U.args s) (hA' : IsA W (Old W) U.args s') => sameType_any U.wt U U s s' W (Nat.le_refl _) hfU hA hA')
  have HI1 := Lib.hid (fun W s s' (hA : IsA W (Old W) U.args s) (hA' : IsA W (Old W) t.args s') => instance_any U t s s' W hfU HF.out hnU hA hA')
  have HI2 := Lib.hid (fun W s s' (hA : IsA W (Old W) U.args s) (hA' : IsA W (Old W) t.args s') => instance_any t U s' s W HF.out hfU HNO.out hA' hA)
  have HVA := Lib.hid (fun W v s B (hr : IRow B [] v W) (hB : B ≤ W.heap.size) (hA : IsA W (fun g => g < B) U.args s) => vars_any U.wt U [] v s B W (Nat.le_refl _) hfU hoU (by simp; omega) hr hB hA)
  rw [(same_iff U U).2 rfl] at HSU
  rw [hi.2] at HI1
  rw [hi.1] at HI2
  rw [hvU] at HVA
  unfold ClosePost at HCU
  rw [hrU, hcU] at HCU
  unfold VarsPost at HVA
  unfold tv at HCU HSU HI1 HI2 HVA
  clear hfU hrU hnU hcU hvU hi hr hU hm hwU hoU
  go_wp2_with fail
  refine HC1.out.mono ?_
  rintro e w4 ⟨hx, hb⟩
  try simp only [if_true] at hx
  obtain ⟨Ax, cx, rfl, hix⟩ := hx
  have HB4 := Lib.hid (HB3.out.trans (hb.mono HB3.out.size))
  obtain ⟨W4, hW4, hbx4, hs4, hb4⟩ := one_box w4 U (.slice Ax U.args.length cx) 24
  have HBX4 := Lib.hid (HB4.out.trans (hb4.mono HB4.out.size))
  have HW4 := Lib.hid hW4
  have HIX := Lib.hid ((hix.out.new).after hb4)
  have HC4 := Lib.hid (HCU.out W4 _ HIX.out)
  have HBX := Lib.hid hbx4
  have HS4 := Lib.hid hs4
  obtain ⟨z0, z1, z2, z3⟩ := hbx4
  clear hix hb hb4 hs4 hW4
  go_upto_region 8 with fail
  rw [← HW4.out]
  go_wp2_with fail
  refine HC4.out.mono ?_
  rintro e w5 ⟨hy, hb⟩
  try simp only [if_true] at hy
  obtain ⟨Ay, cy, rfl, hiy⟩ := hy
  have HB5 := Lib.hid (HBX4.out.trans (hb.mono HBX4.out.size))
  have hbX5 := HBX.out.keep hb (by have := HS4.out; omega)
  obtain ⟨W5, hW5, hbx5, hs5, hb5⟩ := one_box w5 U (.slice Ay U.args.length cy) 24
  have HBX5 := Lib.hid (HB5.out.trans (hb5.mono HB5.out.size))
  have HW5 := Lib.hid hW5
  have HIX5 := Lib.hid ((HIX.out.after hb).after hb5)
  have HIY5 := Lib.hid ((hiy.out.new).after hb5)
  have hs45 := hb.size
  have hs44 := HS4.out
  have HSZ := Lib.hid (show w4.heap.size < W5.heap.size ∧ w5.heap.size < W5.heap.size by omega)
  have hbX55 := hbX5.keep hb5 (by omega)
  have HXX5 := Lib.hid hbX55
  have HYY5 := Lib.hid hbx5
  clear hb hbX5 hiy hs45 hs44 hs5 hb5 hbx5 hW5
  obtain ⟨W6, hW6⟩ : ∃ W6, W6 = W5.alloc (.cells #[] 3) := ⟨_, rfl⟩
  have hb6 : Below W5.heap.size W5 W6 := by rw [hW6]; exact (Below.refl _ _).alloc (Nat.le_refl _) _
  have HW6 := Lib.hid hW6
  have HB6 := Lib.hid hb6
  have HVC := Lib.hid (HVA.out W6 (.slice (some ⟨W5.heap.size, 0, none⟩) 0 0) _ W5.heap.size (by rw [hW6]; exact IRow.empty W5) hb6.size (HIX5.out.same fun g hg => hb6.block g hg))
  obtain ⟨z0, z1, z2, z3⟩ := hbX55
  have hz4 := HSZ.out.1
  have hir0 : IRow W5.heap.size [] (.slice (some ⟨W5.heap.size, 0, none⟩) 0 0) W6 := by rw [hW6]; exact IRow.empty W5
  have HIR0 := Lib.hid hir0
  clear hW6 hb6 hir0
  go_upto_region 9 with fail
  rw [← HW5.out]
  go_wp2_with fail
  rw [← HW6.out]
  refine HVC.out.mono ?_
  rintro e w7 ⟨v', rfl, HIR, HWR⟩
  have hb7 := HIR0.out.below HWR.out HB6.out.size
  obtain ⟨Av, cv, rfl⟩ := HIR.out.form
  have HB7 := Lib.hid (HB6.out.trans hb7)
  clear hb7
  simp only [List.length_map, List.length_range] at *
  go_wp2
  go_loop [7] (fun i => ∃ k : Nat, k ≤ m ∧ i = .int .i64 k) (fun i => m - (RowKit.intOf i).toNat)
  case atStart => exact ⟨0, by omega, rfl⟩
  case round =>
    obtain ⟨k, hk, rfl⟩ := hrel
    by_cases hlt : k < m
    · obtain ⟨g, rfl, hgB, hgs, -, hcx⟩ := HIR.out.at (k := k) (x := (k : Int)) (by simp [hlt])
      go_wp2
      go_round
      case rel => exact ⟨k + 1, by omega, by go_num⟩
      case measure => simp [RowKit.intOf]; omega
    · have hb75 := HB7.out
      obtain ⟨z0, z1, z2, z3⟩ := box_at HXX5.out HSZ.out.1 hb75
      obtain ⟨y0, y1, y2, y3⟩ := box_at HYY5.out HSZ.out.2 hb75
      have HBM7 := Lib.hid (HBX5.out.trans (hb75.mono HBX5.out.size))
      have HS1 := Lib.hid (HSU.out w7 _ _ (HIX5.out.after hb75) (HIY5.out.after hb75))
      clear hb75
      go_wp2_with fail
      refine HS1.out.mono ?_
      rintro e w8 ⟨rfl, hb⟩
      have HB8 := Lib.hid (HB7.out.trans (hb.mono HB7.out.size))
      have HBM8 := Lib.hid (HBX5.out.trans (HB8.out.mono HBX5.out.size))
      have HJ1 := Lib.hid (HI1.out w8 _ _ (HIX5.out.after HB8.out) (HUP.out w8 HBM8.out))
      obtain ⟨z0, z1, z2, z3⟩ := box_at HXX5.out HSZ.out.1 HB8.out
      obtain ⟨x0, x1, x2, x3⟩ := HX.out w8 HBM8.out
      clear hb
      go_wp2_with fail
      refine HJ1.out.mono ?_
      rintro e w9 ⟨rfl, hb⟩
      have HB9 := Lib.hid (HB8.out.trans (hb.mono HB8.out.size))
      have HBM9 := Lib.hid (HBX5.out.trans (HB9.out.mono HBX5.out.size))
      have HJ2 := Lib.hid (HI2.out w9 _ _ (HIX5.out.after HB9.out) (HUP.out w9 HBM9.out))
      obtain ⟨z0, z1, z2, z3⟩ := box_at HXX5.out HSZ.out.1 HB9.out
      obtain ⟨x0, x1, x2, x3⟩ := HX.out w9 HBM9.out
      clear hb
      go_wp2_with fail
      refine HJ2.out.mono ?_
      rintro e w10 ⟨rfl, hb⟩
      have HBM10 := Lib.hid (HBM9.out.trans (hb.mono HBM9.out.size))
      clear hb
      go_wp2
      go_ret
      exact ⟨rfl, HMb.out.trans (HBM10.out.mono HMb.out.size)⟩
end Go.Proofs.YtmpmibebkflaiaaDoor
