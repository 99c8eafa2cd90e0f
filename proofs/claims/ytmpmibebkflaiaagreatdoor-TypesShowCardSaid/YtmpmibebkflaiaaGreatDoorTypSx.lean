/- The reference's show at arrows, and at any type. -/
import Derived.Test.YtmpmibebkflaiaaGreatDoorTypSv
namespace Go.Proofs.YtmpmibebkflaiaaGreatDoor
open Go.RowKit Go.Lib Go.Shelf Go.Sort Tp
set_option maxRecDepth 100000
set_option linter.unusedVariables false
set_option linter.unusedSectionVars false

set_option maxHeartbeats 8000000 in
theorem rshow_arrow {n : Nat} (hS : RShow n) (x y : Ty) (s : Value) (w : World) (hx : x.wt ≤ n ∧ okT nameB x ∧ x.wt ≤ 300 ∧ (∀ p ∈ parts x, p.name.size ≤ 16000) ∧ fit x) (hy : y.wt ≤ n ∧ okT nameB y ∧ y.wt ≤ 300 ∧ (∀ p ∈ parts y, p.name.size ≤ 16000) ∧ fit y) (hA : IsA w (Old w) [x, y] s) :
    Calls Tryz.prog 26 #[.agg #[.int .i64 4, .int .i64 0, .string ⟨#[]⟩, s]] w fun e w' => e = .returned (.string ⟨⟨writeB (.mk 4 0 ⟨#[]⟩ [x, y])⟩⟩) ∧ Below w.heap.size w w' := by
  obtain ⟨A, c, rfl, hc, hr⟩ := hA.open
  obtain ⟨g, o, rfl, hg, hel⟩ := hr (by simp)
  obtain ⟨sx, c0, c1, c2, c3, hax⟩ := hel 0 x rfl
  obtain ⟨sy, d0, d1, d2, d3, hay⟩ := hel 1 y rfl
  obtain ⟨Ax, cx, rfl, -⟩ := hax.form
  obtain ⟨Ay, cy, rfl, -⟩ := hay.form
  obtain ⟨h1, h2, h3, h4, h5⟩ := hx
  obtain ⟨i1, i2, i3, i4, i5⟩ := hy
  obtain ⟨M, hM⟩ : ∃ M, M = w.alloc (.cells #[.int .i64 4, .int .i64 0, .string ⟨#[]⟩, .slice (some ⟨g, o, none⟩) 2 c] 24) := ⟨_, rfl⟩
  have hMb : Below w.heap.size w M := by rw [hM]; exact (Below.refl _ _).alloc (Nat.le_refl _) _
  have hMs : M.heap.size = w.heap.size + 1 := by rw [hM]; simp
  have hbx : M.heap[w.heap.size]? = some (.cells #[.int .i64 4, .int .i64 0, .string ⟨#[]⟩, .slice (some ⟨g, o, none⟩) 2 c] 24) := by rw [hM]; exact heap_alloc_new w _
  have HZ := Lib.hid (show ∀ W : World, RowKit.Hid (Below M.heap.size M W) → W.cell? ⟨w.heap.size, 3, none⟩ = some (.slice (some ⟨g, o, none⟩) 2 c) ∧ W.cell? ⟨g, o, none⟩ = some (.int .i64 x.kind) ∧ W.cell? ⟨g, o + 1, none⟩ = some (.int .i64 x.num) ∧ W.cell? ⟨g, o + 2, none⟩ = some (.string x.name) ∧ W.cell? ⟨g, o + 3, none⟩ = some (.slice Ax x.args.length cx) ∧ W.cell? ⟨g, o + 4, none⟩ = some (.int .i64 y.kind) ∧ W.cell? ⟨g, o + 4 + 1, none⟩ = some (.int .i64 y.num) ∧ W.cell? ⟨g, o + 4 + 2, none⟩ = some (.string y.name) ∧ W.cell? ⟨g, o + 4 + 3, none⟩ = some (.slice Ay y.args.length cy) from fun W hW => by
    obtain ⟨-, -, -, b3⟩ := box4 ((hW.out.block w.heap.size (by omega)).trans hbx)
    have hb : Below w.heap.size w W := hMb.trans (hW.out.mono hMb.size)
    have hcl : ∀ j, W.cell? ⟨g, j, none⟩ = w.cell? ⟨g, j, none⟩ := fun j => hb.cell (p := ⟨g, j, none⟩) hg
    simp only [hcl]
    exact ⟨b3, by simpa using c0, by simpa using c1, by simpa using c2, by simpa using c3, by simpa using d0, by simpa using d1, by simpa using d2, by simpa using d3⟩)
  have hl := text_size h2 h3 h4
  have hl2 := text_size i2 i3 i4
  obtain ⟨U, hU⟩ : ∃ U : ByteArray, U = ⟨⟨wrapB (x.kind == 4) (writeB x)⟩⟩ := ⟨_, rfl⟩
  obtain ⟨V, hV⟩ : ∃ U : ByteArray, U = ⟨⟨writeB y⟩⟩ := ⟨_, rfl⟩
  have hUs : U.size ≤ 5000002 := by
    rw [hU]
    show (wrapB _ _).length ≤ _
    unfold wrapB
    split
    · simp; omega
    · omega
  have hVs : V.size ≤ 5000000 := by rw [hV]; exact hl2
  have HV := Lib.hid (show writeB (.mk 4 0 ⟨#[]⟩ [x, y]) = U.data.toList ++ [32, 45, 62, 32] ++ V.data.toList by
    rw [writeB_eq, hU, hV, ← piece_wrap4]
    rfl)
  have HW := Lib.hid (fun W (hW : RowKit.Hid (Below M.heap.size M W)) => (wrapped_any hS x (x.kind == 4) _ W h1 h2 h3 h4 h5 (hax.after (hMb.trans (hW.out.mono hMb.size)))).mono fun e w' h => show e = .returned (.string U) ∧ RowKit.Hid (Below W.heap.size W w') from ⟨by rw [h.1, hU], Lib.hid h.2⟩)
  have HY := Lib.hid (fun W (hW : RowKit.Hid (Below M.heap.size M W)) => (hS y _ W i1 i2 i3 i4 i5 (hay.after (hMb.trans (hW.out.mono hMb.size)))).mono fun e w' h => show e = .returned (.string V) ∧ RowKit.Hid (Below W.heap.size W w') from ⟨by rw [h.1, hV], Lib.hid h.2⟩)
  unfold tv at HW HY
  have hS0 : RowKit.Hid (Below M.heap.size M M.drew) := Lib.hid (Below.refl _ _).drew
  have HM := Lib.hid hM
  have HMb := Lib.hid hMb
  simp only [List.length_cons, List.length_nil, Nat.zero_add, Nat.reduceAdd] at *
  have hq1 : ¬ 9223372036854775807 < U.size + 4 := by omega
  have hq2 : ¬ 9223372036854775807 < U.size + 4 + V.size := by omega
  clear hS hA hr hel c0 c1 c2 c3 d0 d1 d2 d3 hax hay hM hMb hMs hbx hl hl2 hU hV h1 h2 h3 h4 h5 i1 i2 i3 i4 i5
  obtain ⟨b4, hb4⟩ : ∃ b, (x.kind == 4) = b := ⟨_, rfl⟩
  rw [hb4] at HW
  go_enter Tryz.func26, Tryz.ntmps26
  go_upto_region 29 with fail
  rw [← HM.out]
  refine wp_region_held_drew (S := fun W => W.cell? ⟨w.heap.size, 3, none⟩ = some (.slice (some ⟨g, o, none⟩) 2 c) ∧ W.cell? ⟨g, o, none⟩ = some (.int .i64 x.kind) ∧ W.cell? ⟨g, o + 1, none⟩ = some (.int .i64 x.num) ∧ W.cell? ⟨g, o + 2, none⟩ = some (.string x.name) ∧ W.cell? ⟨g, o + 3, none⟩ = some (.slice Ax x.args.length cx) ∧ W.cell? ⟨g, o + 4, none⟩ = some (.int .i64 y.kind) ∧ W.cell? ⟨g, o + 4 + 1, none⟩ = some (.int .i64 y.num) ∧ W.cell? ⟨g, o + 4 + 2, none⟩ = some (.string y.name) ∧ W.cell? ⟨g, o + 4 + 3, none⟩ = some (.slice Ay y.args.length cy)) (by kernel_rfl) (HZ.out _ hS0) (fun H0 => ?_)
  refine take_at (i := 0) (d := some 127) (v := ?_) rfl rfl (by kernel_rfl) (by kernel_rfl) (by kernel_rfl) (fun _ _ _ h => h) (Or.inl ⟨by rfl, ?_⟩) (by assumption) ?_
  rotate_left
  · (intro w hSw; (try dsimp only at hSw); go_simp; try with_reducible rfl)
  try simp only [Act.put, List.setIfInBounds_toArray, List.set_cons_zero, List.set_cons_succ]
  refine take_at (i := 1) (d := some 128) (v := ?_) rfl rfl (by kernel_rfl) (by kernel_rfl) (by kernel_rfl) (fun _ _ _ h => h) (Or.inl ⟨by rfl, ?_⟩) (by assumption) ?_
  rotate_left
  · (intro w hSw; (try dsimp only at hSw); go_simp; try with_reducible rfl)
  try simp only [Act.put, List.setIfInBounds_toArray, List.set_cons_zero, List.set_cons_succ]
  refine take_at (i := 2) (d := some 129) (v := ?_) rfl rfl (by kernel_rfl) (by kernel_rfl) (by kernel_rfl) (fun _ _ _ h => h) (Or.inl ⟨by rfl, ?_⟩) (by assumption) ?_
  rotate_left
  · (intro w hSw; (try dsimp only at hSw); go_simp; try with_reducible rfl)
  try simp only [Act.put, List.setIfInBounds_toArray, List.set_cons_zero, List.set_cons_succ]
  refine take_at (i := 3) (d := some 130) (v := ?_) rfl rfl (by kernel_rfl) (by kernel_rfl) (by kernel_rfl) (fun _ _ _ h => h) (Or.inl ⟨by rfl, ?_⟩) (by assumption) ?_
  rotate_left
  · (intro w hSw; (try dsimp only at hSw); go_simp; try with_reducible rfl)
  try simp only [Act.put, List.setIfInBounds_toArray, List.set_cons_zero, List.set_cons_succ]
  refine take_at (i := 4) (d := some 131) (v := ?_) rfl rfl (by kernel_rfl) (by kernel_rfl) (by kernel_rfl) (fun _ _ _ h => h) (Or.inl ⟨by rfl, ?_⟩) (by assumption) ?_
  rotate_left
  · (intro w hSw; (try dsimp only at hSw); go_simp; try with_reducible rfl)
  try simp only [Act.put, List.setIfInBounds_toArray, List.set_cons_zero, List.set_cons_succ]
  refine take_at (i := 5) (d := some 132) (v := ?_) rfl rfl (by kernel_rfl) (by kernel_rfl) (by kernel_rfl) (fun _ _ _ h => h) (Or.inl ⟨by rfl, ?_⟩) (by assumption) ?_
  rotate_left
  · (intro w hSw; (try dsimp only at hSw); go_simp; try with_reducible rfl)
  try simp only [Act.put, List.setIfInBounds_toArray, List.set_cons_zero, List.set_cons_succ]
  refine take_at (i := 6) (d := some 133) (v := ?_) rfl rfl (by kernel_rfl) (by kernel_rfl) (by kernel_rfl) (fun _ _ _ h => h) (Or.inl ⟨by rfl, ?_⟩) (by assumption) ?_
  rotate_left
  · (intro w hSw; (try dsimp only at hSw); go_simp; try with_reducible rfl)
  try simp only [Act.put, List.setIfInBounds_toArray, List.set_cons_zero, List.set_cons_succ]
  refine take_at (i := 7) (d := some 134) (v := ?_) rfl rfl (by kernel_rfl) (by kernel_rfl) (by kernel_rfl) (fun _ _ _ h => h) (Or.inl ⟨by rfl, ?_⟩) (by assumption) ?_
  rotate_left
  · (intro w hSw; (try dsimp only at hSw); go_simp; try with_reducible rfl)
  try simp only [Act.put, List.setIfInBounds_toArray, List.set_cons_zero, List.set_cons_succ]
  refine take_at (i := 8) (d := some 135) (v := ?_) rfl rfl (by kernel_rfl) (by kernel_rfl) (by kernel_rfl) (fun _ _ _ h => h) (Or.inl ⟨by rfl, ?_⟩) (by assumption) ?_
  rotate_left
  · (intro w hSw; (try dsimp only at hSw); go_simp; try with_reducible rfl)
  try simp only [Act.put, List.setIfInBounds_toArray, List.set_cons_zero, List.set_cons_succ]
  refine take_at (i := 9) (d := some 136) (v := ?_) rfl rfl (by kernel_rfl) (by kernel_rfl) (by kernel_rfl) (fun _ _ _ h => h) (Or.inl ⟨by rfl, ?_⟩) (by assumption) ?_
  rotate_left
  · (intro w hSw; (try dsimp only at hSw); go_simp; try with_reducible rfl)
  try simp only [Act.put, List.setIfInBounds_toArray, List.set_cons_zero, List.set_cons_succ]
  refine take_at (i := 12) (d := some 139) (v := ?_) rfl rfl (by kernel_rfl) (by kernel_rfl) (by kernel_rfl) (fun _ _ _ h => h) (Or.inl ⟨by rfl, ?_⟩) (by assumption) ?_
  rotate_left
  · (intro w hSw; (try dsimp only at hSw); go_simp; try with_reducible rfl)
  try simp only [Act.put, List.setIfInBounds_toArray, List.set_cons_zero, List.set_cons_succ]
  refine take_at (i := 13) (d := some 140) (v := ?_) rfl rfl (by kernel_rfl) (by kernel_rfl) (by kernel_rfl) (fun _ _ _ h => h) (Or.inl ⟨by rfl, ?_⟩) (by assumption) ?_
  rotate_left
  · (intro w hSw; (try dsimp only at hSw); go_simp; try with_reducible rfl)
  try simp only [Act.put, List.setIfInBounds_toArray, List.set_cons_zero, List.set_cons_succ]
  refine take_at (i := 14) (d := some 141) (v := ?_) rfl rfl (by kernel_rfl) (by kernel_rfl) (by kernel_rfl) (fun _ _ _ h => h) (Or.inl ⟨by rfl, ?_⟩) (by assumption) ?_
  rotate_left
  · (intro w hSw; (try dsimp only at hSw); go_simp; try with_reducible rfl)
  try simp only [Act.put, List.setIfInBounds_toArray, List.set_cons_zero, List.set_cons_succ]
  refine take_at (i := 15) (d := some 142) (v := ?_) rfl rfl (by kernel_rfl) (by kernel_rfl) (by kernel_rfl) (fun _ _ _ h => h) (Or.inl ⟨by rfl, ?_⟩) (by assumption) ?_
  rotate_left
  · (intro w hSw; (try dsimp only at hSw); go_simp; try with_reducible rfl)
  try simp only [Act.put, List.setIfInBounds_toArray, List.set_cons_zero, List.set_cons_succ]
  refine wpAnyH_ready (rs := [10]) (by kernel_rfl) (by simp) ?_
  refine AllReadyH.cons (o := { dst := some 137, op := Op.call { callee := Callee.value (Operand.func 38), args := #[Operand.tmp 130, Operand.tmp 136], argTypes := #[24, 4] }, type := 9, pos := "ref.go:123", after := #[{ on := 3, ground := Ground.data }, { on := 9, ground := Ground.data }], guard := none }) rfl (fun K hK => ?_) AllReadyH.nil
  go_simp
  with_reducible refine (HW.out _ hS0).mono ?_
  rintro e wn1 ⟨rfl, hbn⟩
  have hS1 := keepW hbn hS0
  clear hbn
  go_wp2_with fail
  refine hK.out _ _ (HZ.out _ hS1) (fun H1 => ?_)
  clear hK K
  try simp only [Act.put, List.setIfInBounds_toArray, List.set_cons_zero, List.set_cons_succ]
  refine take_at (i := 11) (d := some 138) (v := ?_) rfl rfl (by kernel_rfl) (by kernel_rfl) (by kernel_rfl) (fun _ _ _ h => h) (Or.inl ⟨by rfl, ?_⟩) (by assumption) ?_
  rotate_left
  · (intro w hSw; (try dsimp only at hSw); go_simp; try with_reducible rfl)
  try simp only [Act.put, List.setIfInBounds_toArray, List.set_cons_zero, List.set_cons_succ]
  refine wpAnyH_ready (rs := [16]) (by kernel_rfl) (by simp) ?_
  refine AllReadyH.cons (o := { dst := some 143, op := Op.call { callee := Callee.value (Operand.func 26), args := #[Operand.tmp 142], argTypes := #[24] }, type := 9, pos := "ref.go:123", after := #[{ on := 15, ground := Ground.data }, { on := 10, ground := Ground.chain }], guard := none }) rfl (fun K hK => ?_) AllReadyH.nil
  go_simp
  with_reducible refine (HY.out _ hS1).mono ?_
  rintro e wn2 ⟨rfl, hbn⟩
  have hS2 := keepW hbn hS1
  clear hbn
  go_wp2_with fail
  refine hK.out _ _ (HZ.out _ hS2) (fun H2 => ?_)
  clear hK K
  try simp only [Act.put, List.setIfInBounds_toArray, List.set_cons_zero, List.set_cons_succ]
  refine take_at (i := 17) (d := some 144) (v := ?_) rfl rfl (by kernel_rfl) (by kernel_rfl) (by kernel_rfl) (fun _ _ _ h => h) (Or.inl ⟨by rfl, ?_⟩) (by assumption) ?_
  rotate_left
  · (intro w hSw; (try dsimp only at hSw); go_simp; try with_reducible rfl)
  try simp only [Act.put, List.setIfInBounds_toArray, List.set_cons_zero, List.set_cons_succ]
  refine take_at (i := 18) (d := some 2) (v := ?_) rfl rfl (by kernel_rfl) (by kernel_rfl) (by kernel_rfl) (fun _ _ _ h => h) (Or.inl ⟨by rfl, ?_⟩) (by assumption) ?_
  rotate_left
  · (intro w hSw; (try dsimp only at hSw); go_simp; try with_reducible rfl)
  try simp only [Act.put, List.setIfInBounds_toArray, List.set_cons_zero, List.set_cons_succ]
  refine wpAnyH_done (by kernel_rfl) ?_ _
  go_wp2
  go_ret
  exact ⟨ret_str (ba_ext2 (by rw [HV.out]; simp)), HMb.out.trans (hS2.out.mono HMb.out.size)⟩
theorem pair_args2 {t : Ty} (h : rightPart nameB t = true) (hk : t.kind = 3) : ∃ x y ys, t = .mk 3 0 ⟨#[]⟩ (x :: y :: ys) := by
  have hn := rp_num h (by omega)
  unfold rightPart at h
  rw [if_neg (by omega), if_neg (by omega), if_pos hk, Bool.and_eq_true, Bool.and_eq_true, decide_eq_true_iff, beq_iff_eq, decide_eq_true_iff] at h
  obtain ⟨k, n, s, l⟩ := t
  simp only [Ty.kind, Ty.num, Ty.name, Ty.args] at *
  subst hk hn
  rw [ba_nil h.1.2]
  match l, h.2 with
  | x :: y :: ys, _ => exact ⟨x, y, ys, rfl⟩
theorem arrow_args2 {t : Ty} (h : rightPart nameB t = true) (hk : t.kind = 4) : ∃ x y, t = .mk 4 0 ⟨#[]⟩ [x, y] := by
  have hn := rp_num h (by omega)
  unfold rightPart at h
  rw [if_neg (by omega), if_neg (by omega), if_neg (by omega), if_pos hk, Bool.and_eq_true, Bool.and_eq_true, decide_eq_true_iff, beq_iff_eq, beq_iff_eq] at h
  obtain ⟨k, n, s, l⟩ := t
  simp only [Ty.kind, Ty.num, Ty.name, Ty.args] at *
  subst hk hn
  rw [ba_nil h.1.2]
  match l, h.2 with
  | [x, y], _ => exact ⟨x, y, rfl⟩
theorem rshow_any (n : Nat) : RShow n := by
  induction n with
  | zero => intro t s w hn; have := Ty.wt_eq t; omega
  | succ n ih =>
    intro t s w hn hok hw hnm hf hA
    have hargs : ∀ x ∈ t.args, x.wt ≤ n ∧ okT nameB x ∧ x.wt ≤ 300 ∧ (∀ p ∈ parts x, p.name.size ≤ 16000) ∧ fit x := fun x hx => ⟨by have := Ty.wt_lt hx; omega, hok.arg hx, by have := Ty.wt_lt hx; omega, fun p hp => hnm p (parts_mem hx hp), hf.arg hx⟩
    have hl := text_size hok hw hnm
    have hself := hnm t (parts_self t)
    have hs := hok.self
    have hlen : t.args.length ≤ 300 := by
      have h1 := Ty.wt_eq t
      have h2 : ∀ l : List Ty, l.length ≤ Ty.wts l := fun l => by
        induction l with
        | nil => exact Nat.zero_le _
        | cons a l ih => rw [Ty.wts, List.length_cons]; have := Ty.wt_eq a; omega
      have := h2 t.args
      omega
    rcases rp_kind hs with hk | hk | hk | ⟨hk, h2⟩
    · obtain ⟨e, h0, h1⟩ := rp_var hs hk
      rw [e] at hA ⊢
      obtain ⟨A, c, rfl, -⟩ := hA.form
      have := rshow_var t.num (.slice A 0 c) w h0 h1 ⟨A, c, rfl⟩
      exact this
    · have hn0 := rp_num hs (by omega)
      obtain ⟨k, m, z, xs⟩ := t
      simp only [Ty.kind, Ty.num, Ty.name, Ty.args] at *
      subst hk hn0
      match xs, hA, hargs, hlen with
      | [], hA, hargs, hlen =>
        obtain ⟨A, c, rfl, -⟩ := hA.form
        exact rshow_nil z _ w ⟨A, c, rfl⟩
      | [x], hA, hargs, hlen => exact rshow_one ih z x s w hself (hargs x (by simp)) hA
      | x :: y :: ys, hA, hargs, hlen => exact rshow_many ih z _ s w (by simp) hargs hl hlen hA
    · obtain ⟨x, y, ys, rfl⟩ := pair_args2 hs hk
      exact rshow_pair ih (x :: y :: ys) s w (by simp) hargs hl hlen hA
    · obtain ⟨x, y, rfl⟩ := arrow_args2 hs hk
      exact rshow_arrow ih x y s w (hargs x (by simp [Ty.args])) (hargs y (by simp [Ty.args])) hA
end Go.Proofs.YtmpmibebkflaiaaGreatDoor
