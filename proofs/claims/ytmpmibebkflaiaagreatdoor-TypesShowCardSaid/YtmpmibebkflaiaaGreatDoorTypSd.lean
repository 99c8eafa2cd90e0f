/- The contracts of the reference's Close and Show. -/
import Derived.Test.YtmpmibebkflaiaaGreatDoorTypSc
import Derived.Deep.RegionHeld3
namespace Go.Proofs.YtmpmibebkflaiaaGreatDoor
open Go.RowKit Go.Lib Go.Shelf Go.Sort Tp
set_option maxRecDepth 100000
set_option linter.unusedVariables false
set_option linter.unusedSectionVars false

def RClosePost (w : World) (t : Ty) (e : Ending) (w' : World) : Prop :=
  (if rightF nameB t = true then ∃ A c, e = .returned (.tuple #[tv (closeF t) (.slice A (closeF t).args.length c), .int .i64 0]) ∧ RowKit.Hid (IsA w' (Old w') (closeF t).args (.slice A (closeF t).args.length c))
   else e = .returned (.tuple #[noT, .int .i64 120])) ∧ Below w.heap.size w w'
theorem below_alloc {M W : World} (h : RowKit.Hid (Below M.heap.size M W)) (o : Obj) : RowKit.Hid (Below M.heap.size M (W.alloc o)) := h.out.alloc h.out.size o
set_option maxHeartbeats 8000000 in
theorem rclose_any (t : Ty) (s : Value) (w : World) (hm : t.wt ≤ 1000) (hf : fit t) (hnm : ∀ p ∈ parts t, p.name.size ≤ 16000) (hA : IsA w (Old w) t.args s) :
    Calls Tryz.prog 8 #[tv t s] w (RClosePost w t) := by
  obtain ⟨A, c, rfl, -⟩ := hA.form
  obtain ⟨M, hM⟩ : ∃ M, M = (w.alloc (.cells #[.int .i64 t.kind, .int .i64 t.num, .string t.name, .slice A t.args.length c] 24)).alloc (.cells #[.int .i64 0, .int .i64 0, .string ⟨#[]⟩, .slice none 0 0] 24) := ⟨_, rfl⟩
  have hMs : M.heap.size = w.heap.size + 2 := by rw [hM]; simp
  have hMb : Below w.heap.size w M := by rw [hM]; exact ((Below.refl _ w).alloc (Nat.le_refl _) _).alloc (by simp) _
  have hM0 : M.heap[w.heap.size]? = some (.cells #[.int .i64 t.kind, .int .i64 t.num, .string t.name, .slice A t.args.length c] 24) := by
    rw [hM, Below.heap_alloc _ _ _ (by simp)]
    exact heap_alloc_new w _
  have hM1 : M.heap[w.heap.size + 1]? = some (.cells #[.int .i64 0, .int .i64 0, .string ⟨#[]⟩, .slice none 0 0] 24) := by
    rw [hM]
    exact blk_second w _ _
  have hAM : ∀ W, Below M.heap.size M W → IsA W (Old W) t.args (.slice A t.args.length c) := fun W hW => hA.after (hMb.trans (hW.mono hMb.size))
  have HR := Lib.hid (fun W (hW : W = M) => hW ▸ rRight_any t _ M (by omega) hf hnm (hAM M (Below.refl _ _)))
  have HX := Lib.hid (fun W (hW : Below M.heap.size M W) => box4 ((hW.block w.heap.size (by omega)).trans hM0))
  have HROW := Lib.hid (fun W (hW : Below M.heap.size M W) => (hW.block (w.heap.size + 1) (by omega)).trans hM1)
  have HAM := Lib.hid hAM
  have HM := Lib.hid hM
  have HMb := Lib.hid hMb
  have HMs := Lib.hid hMs
  have HF := Lib.hid hf
  unfold tv at *
  obtain ⟨r0, hr0⟩ : ∃ r, r = rightF nameB t := ⟨_, rfl⟩
  rw [← hr0] at HR
  have HRR := Lib.hid hr0
  clear hA hf hnm hm hM hMs hMb hM0 hM1 hAM hr0
  go_enter Tryz.func8, Tryz.ntmps8
  go_wp2_with fail
  refine (HR.out _ HM.out.symm).mono ?_
  rintro e w1 ⟨rfl, hb⟩
  have HB1 := Lib.hid (show Below M.heap.size M w1 by first | exact hb | (rw [HM.out]; exact hb) | (rw [← HM.out] at hb; exact hb))
  clear hb HR
  obtain ⟨x0, x1, x2, x3⟩ := HX.out w1 HB1.out
  have hrow := HROW.out w1 HB1.out
  obtain ⟨⟨r0', r1, r2, r3⟩, fr0, fr1, fr2, fr3⟩ := row4 hrow
  have HRW := Lib.hid hrow
  have hms := HMs.out
  clear hrow
  cases r0
  case false =>
    go_wp2_with fail
    refine bodyPost_ret (v := .tuple #[noT, .int .i64 120]) (results_cell_tmp rfl _ _ (w.heap.size + 1) 24 #[.int .i64 0, .int .i64 0, .string ⟨#[]⟩, .slice none 0 0] (0, 0) _ rfl (put4_blk HRW.out _ _ _ _) Tryz.underlying24 rfl infoTy4 _ rfl) rfl ?_
    refine ⟨by rw [← HRR.out, if_neg (by simp)], put4_below (HMb.out.trans (HB1.out.mono (by omega))) (by omega) _ _ _ _⟩
  have hr := HRR.out.symm
  obtain ⟨hok, hw3⟩ := right_ok hr
  have hvl := vars_len t hok []
  obtain ⟨C, hC⟩ : ∃ C, C = closeF t := ⟨_, rfl⟩
  have HVA := Lib.hid (fun W (hW : RowKit.Hid (Below M.heap.size M W)) => show Calls Tryz.prog 20 #[.slice (some ⟨W.heap.size, 0, none⟩) 0 0, tv t (.slice A t.args.length c)] (W.alloc (.cells #[] 3)) fun e w' => ∃ v', e = .returned v' ∧ RowKit.Hid (IRow W.heap.size (vars [] t) v' w') ∧ RowKit.Hid (Below M.heap.size M w') from
    (vars_any t.wt t [] _ _ W.heap.size (W.alloc (.cells #[] 3)) (Nat.le_refl _) HF.out hok (by simp; omega) (IRow.empty W) (by simp) ((HAM.out W hW.out).same fun g hg => Below.heap_alloc _ _ _ hg)).mono fun e w' ⟨v', h1, h2, h3⟩ => ⟨v', h1, h2, Lib.hid ((hW.out.alloc hW.out.size _).trans (((IRow.empty W).below h3.out (by simp)).mono hW.out.size))⟩)
  have HRN := Lib.hid (fun W v' B' (hW : RowKit.Hid (Below M.heap.size M W)) (hI : RowKit.Hid (IRow B' (vars [] t) v' W)) => show Calls Tryz.prog 19 #[tv t (.slice A t.args.length c), v'] W fun e w' => ∃ A' c', e = .returned (tv C (.slice A' C.args.length c')) ∧ RowKit.Hid (IsA w' (New M.heap.size w') C.args (.slice A' C.args.length c')) ∧ RowKit.Hid (Below M.heap.size M w') from
    (renamed_any (vars [] t) B' v' (by simp at hvl; omega) t.wt t _ W (Nat.le_refl _) HF.out hok hI.out (HAM.out W hW.out)).mono fun e w' ⟨A', c', h1, h2, h3⟩ => by
      have e2 : renamed (vars [] t) t = C := hC.symm
      rw [e2] at h1 h2
      exact ⟨A', c', h1, Lib.hid (h2.out.weak fun g hg => ⟨Nat.le_trans hW.out.size hg.1, hg.2⟩), Lib.hid (hW.out.trans (h3.mono hW.out.size))⟩)
  unfold tv at HVA HRN
  have HCE := Lib.hid hC
  have HZ := Lib.hid (show ∀ W : World, RowKit.Hid (Below M.heap.size M W) → W.cell? ⟨w.heap.size, 0, none⟩ = some (.int .i64 t.kind) ∧ W.cell? ⟨w.heap.size, 1, none⟩ = some (.int .i64 t.num) ∧ W.cell? ⟨w.heap.size, 2, none⟩ = some (.string t.name) ∧ W.cell? ⟨w.heap.size, 3, none⟩ = some (.slice A t.args.length c) from fun W hW => HX.out W hW.out)
  have hS0 : RowKit.Hid (Below M.heap.size M w1.drew) := Lib.hid HB1.out.drew
  have HVA0 := Lib.hid (show Calls Tryz.prog 20 #[.slice (some ⟨w1.heap.size, 0, none⟩) 0 0, .agg #[.int .i64 t.kind, .int .i64 t.num, .string t.name, .slice A t.args.length c]] (w1.drew.alloc (.cells #[] 3)) fun e w' => ∃ v', e = .returned v' ∧ RowKit.Hid (IRow w1.heap.size (vars [] t) v' w') ∧ RowKit.Hid (Below M.heap.size M w') from HVA.out w1.drew hS0)
  clear hr hok hw3 hvl hC x0 x1 x2 x3 r0' r1 r2 r3 fr0 fr1 fr2 fr3 HRW
  go_upto_region 3 with fail
  refine wp_region_held_drew (S := fun W => W.cell? ⟨w.heap.size, 0, none⟩ = some (.int .i64 t.kind) ∧ W.cell? ⟨w.heap.size, 1, none⟩ = some (.int .i64 t.num) ∧ W.cell? ⟨w.heap.size, 2, none⟩ = some (.string t.name) ∧ W.cell? ⟨w.heap.size, 3, none⟩ = some (.slice A t.args.length c)) (by kernel_rfl) (HZ.out _ hS0) (fun H0 => ?_)
  refine take_at (i := 0) (d := some 8) (v := ?_) rfl rfl (by kernel_rfl) (by kernel_rfl) (by kernel_rfl) (fun _ _ _ h => h) (Or.inl ⟨by rfl, ?_⟩) (by assumption) ?_
  rotate_left
  · (intro w hSw; (try dsimp only at hSw); go_simp; try with_reducible rfl)
  try simp only [Act.put, List.setIfInBounds_toArray, List.set_cons_zero, List.set_cons_succ]
  refine take_at (i := 2) (d := some 10) (v := ?_) rfl rfl (by kernel_rfl) (by kernel_rfl) (by kernel_rfl) (fun _ _ _ h => h) (Or.inl ⟨by rfl, ?_⟩) (by assumption) ?_
  rotate_left
  · (intro w hSw; (try dsimp only at hSw); go_simp; try with_reducible rfl)
  try simp only [Act.put, List.setIfInBounds_toArray, List.set_cons_zero, List.set_cons_succ]
  refine wpAnyH_ready (rs := [1]) (by kernel_rfl) (by simp) ?_
  refine AllReadyH.cons (o := { dst := some 9, op := Op.buildSlice 41 0 #[], type := 41, pos := "ref.go:79", after := #[], guard := none }) rfl (fun K hK => ?_) AllReadyH.nil
  go_simp
  refine hK.out _ _ (HZ.out _ (below_alloc hS0 _)) (fun H1 => ?_)
  clear hK K
  try simp only [Act.put, List.setIfInBounds_toArray, List.set_cons_zero, List.set_cons_succ]
  refine wpAnyH_ready (rs := [3]) (by kernel_rfl) (by simp) ?_
  refine AllReadyH.cons (o := { dst := some 11, op := Op.call { callee := Callee.value (Operand.func 20), args := #[Operand.tmp 9, Operand.tmp 10], argTypes := #[41, 24] }, type := 41, pos := "ref.go:79", after := #[{ on := 1, ground := Ground.data }, { on := 2, ground := Ground.data }], guard := none }) rfl (fun K hK => ?_) AllReadyH.nil
  go_simp
  refine HVA0.out.mono ?_
  rintro e wn ⟨v', rfl, hI, hbn⟩
  go_wp2_with fail
  refine hK.out _ _ (HZ.out _ hbn) (fun H2 => ?_)
  clear hK K
  try simp only [Act.put, List.setIfInBounds_toArray, List.set_cons_zero, List.set_cons_succ]
  refine wpAnyH_ready (rs := [4]) (by kernel_rfl) (by simp) ?_
  refine AllReadyH.cons (o := { dst := some 12, op := Op.call { callee := Callee.value (Operand.func 19), args := #[Operand.tmp 8, Operand.tmp 11], argTypes := #[24, 41] }, type := 24, pos := "ref.go:79", after := #[{ on := 0, ground := Ground.data }, { on := 3, ground := Ground.data }, { on := 3, ground := Ground.chain }], guard := none }) rfl (fun K hK => ?_) AllReadyH.nil
  go_simp
  refine (HRN.out _ _ _ hbn hI).mono ?_
  rintro e w3 ⟨A', c', rfl, hI2, hbn2⟩
  go_wp2_with fail
  refine hK.out _ _ (HZ.out _ hbn2) (fun H3 => ?_)
  clear hK K
  try simp only [Act.put, List.setIfInBounds_toArray, List.set_cons_zero, List.set_cons_succ]
  have hrow := HROW.out w3 hbn2.out
  obtain ⟨⟨r0', r1, r2, r3⟩, fr0, fr1, fr2, fr3⟩ := row4 hrow
  have HRW := Lib.hid hrow
  clear hrow
  refine wpAnyH_ready (rs := [5]) (by kernel_rfl) (by simp) ?_
  refine AllReadyH.cons (o := { dst := none, op := Op.store 24 (Operand.tmp 2) (Operand.tmp 12), type := 0, pos := "ref.go:79", after := #[{ on := 4, ground := Ground.data }, { on := 4, ground := Ground.chain }, { on := 0, ground := Ground.phase }, { on := 1, ground := Ground.phase }, { on := 2, ground := Ground.phase }, { on := 3, ground := Ground.phase }, { on := 4, ground := Ground.phase }], guard := none }) rfl (fun K hK => ?_) AllReadyH.nil
  go_simp
  have hoth : (put4 w3 (w.heap.size + 1) (.int .i64 C.kind) (.int .i64 C.num) (.string C.name) (.slice A' C.args.length c')).heap[w.heap.size]? = w3.heap[w.heap.size]? := put4_other (by omega) _ _ _ _
  have hcl : ∀ j, (put4 w3 (w.heap.size + 1) (.int .i64 C.kind) (.int .i64 C.num) (.string C.name) (.slice A' C.args.length c')).cell? ⟨w.heap.size, j, none⟩ = w3.cell? ⟨w.heap.size, j, none⟩ := fun j => World.cell?_of_block (a := ⟨w.heap.size, j, none⟩) hoth
  refine hK.out _ _ ⟨(hcl 0).trans H3.1, (hcl 1).trans H3.2.1, (hcl 2).trans H3.2.2.1, (hcl 3).trans H3.2.2.2⟩ (fun H4 => ?_)
  clear hK K hoth hcl r0' r1 r2 r3 fr0 fr1 fr2 fr3
  try simp only [Act.put, List.setIfInBounds_toArray, List.set_cons_zero, List.set_cons_succ]
  refine take_at (i := 6) (d := some 3) (v := ?_) rfl rfl (by kernel_rfl) (by kernel_rfl) (by kernel_rfl) (fun _ _ _ h => h) (Or.inl ⟨by rfl, ?_⟩) (by assumption) ?_
  rotate_left
  · (intro w hSw; (try dsimp only at hSw); go_simp; try with_reducible rfl)
  try simp only [Act.put, List.setIfInBounds_toArray, List.set_cons_zero, List.set_cons_succ]
  refine wpAnyH_done (by kernel_rfl) ?_ _
  go_wp2_with fail
  refine bodyPost_ret (v := .tuple #[.agg #[.int .i64 C.kind, .int .i64 C.num, .string C.name, .slice A' C.args.length c'], .int .i64 0]) (results_cell_tmp rfl _ _ (w.heap.size + 1) 24 #[.int .i64 C.kind, .int .i64 C.num, .string C.name, .slice A' C.args.length c'] (0, 0) _ rfl (put4_blk HRW.out _ _ _ _) Tryz.underlying24 rfl infoTy4 _ rfl) rfl ?_
  have hbw : Below w.heap.size w w3 := HMb.out.trans (hbn2.out.mono HMb.out.size)
  refine ⟨?_, put4_below hbw (by omega) _ _ _ _⟩
  rw [if_pos HRR.out.symm, ← HCE.out]
  refine ⟨A', c', rfl, Lib.hid ((hI2.out.same (w' := put4 w3 (w.heap.size + 1) _ _ _ _) fun g hg => put4_other (by have := hg.1; omega) _ _ _ _).weak fun g hg => ?_)⟩
  show g < (put4 w3 (w.heap.size + 1) _ _ _ _).heap.size
  rw [put4_size]
  exact hg.2
set_option maxHeartbeats 4000000 in
theorem rShow_any (t : Ty) (s : Value) (w : World) (hm : t.wt ≤ 1000) (hf : fit t) (hnm : ∀ p ∈ parts t, p.name.size ≤ 16000) (hA : IsA w (Old w) t.args s) :
    Calls Tryz.prog 13 #[tv t s] w fun e w' => e = .returned (.tuple #[.string (showF t).1, .int .i64 (showF t).2]) ∧ Below w.heap.size w w' := by
  obtain ⟨A, c, rfl, -⟩ := hA.form
  obtain ⟨M, hM, hx, hMs, hMb⟩ := one_box w t (.slice A t.args.length c) 24
  have hAM : ∀ W, Below M.heap.size M W → IsA W (Old W) t.args (.slice A t.args.length c) := fun W hW => hA.after (hMb.trans (hW.mono hMb.size))
  have HR := Lib.hid (fun W (hW : W = M) => hW ▸ rRight_any t _ M (by omega) hf hnm (hAM M (Below.refl _ _)))
  have HX := Lib.hid (fun W (hW : Below M.heap.size M W) => box_at hx (by omega) hW)
  have HSH := Lib.hid (fun W (hW : Below M.heap.size M W) (hr : rightF nameB t = true) => rshow_any t.wt t _ W (Nat.le_refl _) (right_ok hr).1 (right_ok hr).2 hnm hf (hAM W hW))
  have HM := Lib.hid hM
  have HMb := Lib.hid hMb
  obtain ⟨r0, hr0⟩ : ∃ r, r = rightF nameB t := ⟨_, rfl⟩
  rw [← hr0] at HR HSH
  have HRR := Lib.hid hr0
  unfold tv at *
  clear hA hf hnm hm hM hMs hMb hx hAM hr0
  go_enter Tryz.func13, Tryz.ntmps13
  go_wp2_with fail
  refine (HR.out _ HM.out.symm).mono ?_
  rintro e w1 ⟨rfl, hb⟩
  have HB1 := Lib.hid (show Below M.heap.size M w1 by first | exact hb | (rw [HM.out]; exact hb) | (rw [← HM.out] at hb; exact hb))
  clear hb HR
  obtain ⟨x0, x1, x2, x3⟩ := HX.out w1 HB1.out
  cases r0
  case false =>
    have HE := Lib.hid (show showF t = (⟨#[]⟩, 120) by unfold showF; rw [← HRR.out]; rfl)
    go_wp2
    go_ret2
    rw [HE.out]
    exact ⟨rfl, HMb.out.trans (HB1.out.mono HMb.out.size)⟩
  have HE := Lib.hid (show showF t = (⟨⟨writeB t⟩⟩, 0) by unfold showF; rw [← HRR.out]; rfl)
  have HS := Lib.hid (HSH.out w1 HB1.out (by trivial))
  go_wp2_with fail
  refine HS.out.mono ?_
  rintro e w2 ⟨rfl, hb⟩
  have HB2 := Lib.hid (HB1.out.trans (hb.mono HB1.out.size))
  clear hb
  go_wp2
  go_ret2
  rw [HE.out]
  exact ⟨rfl, HMb.out.trans (HB2.out.mono HMb.out.size)⟩
end Go.Proofs.YtmpmibebkflaiaaGreatDoor
