/- The contract of the law's filled. -/
import Derived.Test.YtmpmibebkflaiaaDoorTypVa
namespace Go.Proofs.YtmpmibebkflaiaaDoor
open Go.RowKit Go.Lib Go.Shelf Go.Sort Tp
set_option maxRecDepth 100000
set_option linter.unusedVariables false
set_option linter.unusedSectionVars false

/-- what stands in a variable's place. -/
def sub10 (ws : List Ty) (n : Int) : Ty := match ws[n.toNat % ws.length]? with | some u => u | none => var n
def fillF (ws : List Ty) (t : Ty) : Ty := subst (sub10 ws) t
theorem sub10_nil (n : Int) : sub10 [] n = var n := rfl
theorem sub10_at {ws : List Ty} {n : Int} {u : Ty} (h : ws[n.toNat % ws.length]? = some u) : sub10 ws n = u := by unfold sub10; rw [h]
theorem fit_sub10 {ws : List Ty} (h : ∀ u ∈ ws, fit u) (n : Int) : fit (sub10 ws n) := by
  unfold sub10
  cases hx : ws[n.toNat % ws.length]? with
  | none => exact fit_var n
  | some u => exact h u (List.mem_of_getElem? hx)
theorem fillF_var {ws : List Ty} {t : Ty} (h : t.kind = 1) : fillF ws t = sub10 ws t.num := subst_var h
theorem fillF_con {ws : List Ty} {t : Ty} (h : t.kind ≠ 1) : fillF ws t = .mk t.kind t.num t.name (t.args.map (fillF ws)) := subst_con h
theorem Tys.keepS {B : Nat} {S : Nat → Prop} {acc : List Ty} {v : Value} {w w' : World} (h : Tys B S acc v w) (hb : ∀ g, (S g ∨ B ≤ g) → g < w.heap.size → w'.heap[g]? = w.heap[g]?) (hs : w.heap.size ≤ w'.heap.size) : Tys B S acc v w' := by
  obtain ⟨ps, hp, ho, he⟩ := h
  refine ⟨ps, hp, own_same ho fun g hg => hb g (.inr (ho.lt g hg).1) (ho.lt g hg).2, fun p hp => ?_⟩
  exact ((he p hp).same fun g hg => hb g (.inl hg.1) hg.2.1).weak fun g hg => ⟨hg.1, by have := hg.2.1; omega, hg.2.2⟩
theorem tys_round2 {B B0 : Nat} {acc : List Ty} {v s : Value} {x : Ty} {W w2 : World} {n : Nat} (hn : acc.length = n) (hv : Tys B (fun g => g < B0 ∨ B ≤ g) acc v W) (hb : ∀ g, g < W.heap.size → w2.heap[g]? = W.heap[g]?) (hsz : W.heap.size ≤ w2.heap.size) (hB : B ≤ W.heap.size) (hB0 : B0 ≤ B)
    (hs : IsA w2 (fun g => g < B0 ∨ (W.heap.size ≤ g ∧ g < w2.heap.size)) x.args s) :
    ∃ ps : List (Ty × Value), ps.map (·.1) = acc ∧ w2.ownsRow B 24 4 v n (psCells ps) ∧
      ∀ v' w3 o, w3.ownsRow B 24 4 v' (n + 1) (psCells ps ++ tyCells x s) → (w2.alloc o).grownBy w3 v.ownBlock → (v'.ownBlock = v.ownBlock ∨ v'.ownBlock = some (w2.alloc o).heap.size) → Tys B (fun g => g < B0 ∨ B ≤ g) (acc ++ [x]) v' w3 ∧ Below B w2 w3 := by
  subst hn
  obtain ⟨ps, hp, ho, he⟩ := hv.keepS (fun g _ hg => hb g hg) hsz
  obtain ⟨ps0, -, ho0, -⟩ := hv
  refine ⟨ps, hp, ho, fun v' w3 o hown hg hl => ⟨Tys.next (W := W) hp ho he (hs.weak fun g hg => ⟨hg.imp id fun h => by omega, ?_, fun e => ?_⟩) hown hg hl, ?_⟩⟩
  · rcases hg with h | h <;> omega
  · have h1 := ho0.lt g e.symm
    rcases hg with h | h <;> omega
  · exact ((Below.refl _ _).alloc (by omega) o).grown hg (by simp; omega) (fun j e => (ho.lt j e).1)
theorem blk_second (w : World) (x y : Obj) : ((w.alloc x).alloc y).heap[w.heap.size + 1]? = some y := by
  have := heap_alloc_new (w.alloc x) y
  rwa [World.size_alloc] at this
/-- what filled answers. -/
def FillPost (B0 : Nat) (w : World) (u : Ty) (e : Ending) (w' : World) : Prop := ∃ A c, e = .returned (tv u (.slice A u.args.length c)) ∧ RowKit.Hid (IsA w' (fun g => g < B0 ∨ (w.heap.size ≤ g ∧ g < w'.heap.size)) u.args (.slice A u.args.length c)) ∧ Below w.heap.size w w'
theorem var_args {t : Ty} (h : okT nameB t) (hk : t.kind = 1) : t.args = [] ∧ 0 ≤ t.num ∧ t.num < 1073741824 ∧ t = var t.num := by
  obtain ⟨h1, h2, h3⟩ := rp_var h.self hk
  exact ⟨by rw [h1]; rfl, h2, h3, h1⟩
set_option maxHeartbeats 2000000 in
theorem filled_any (B0 : Nat) (ws : List Ty) (vw : Value) (hws : ws.length ≤ 10) (hfw : ∀ u ∈ ws, fit u) (n : Nat) : ∀ (t : Ty) (s : Value) (w : World), t.wt ≤ n → fit t → okT nameB t → B0 ≤ w.heap.size → IsA w (fun g => g < B0) t.args s → IsA w (fun g => g < B0) ws vw →
    Calls Tryd.prog 19 #[tv t s, vw] w (FillPost B0 w (fillF ws t)) := by
  induction n with
  | zero => intro t s w hn; have := Ty.wt_eq t; omega
  | succ n ih =>
    intro t s w hn hf hok hB0 hA hW
    obtain ⟨i0, hi, hz0, hz1, hz2⟩ := info_parts infoTy
    obtain ⟨A, c, rfl, hc, hr⟩ := hA.open
    obtain ⟨Aw, cw, rfl, hcw, hrw⟩ := hW.open
    have HR := Lib.hid hr
    have HRW := Lib.hid hrw
    have HWA := Lib.hid hW
    have HF := Lib.hid hf
    have HOK := Lib.hid hok
    have HN := Lib.hid hn
    have HI := Lib.hid ih
    have hsz := hf.self.2
    obtain ⟨L, hL⟩ : ∃ L, L = t.args.length := ⟨_, rfl⟩
    have HL := Lib.hid hL
    obtain ⟨Lw, hLw⟩ : ∃ L, L = ws.length := ⟨_, rfl⟩
    have HLW := Lib.hid hLw
    obtain ⟨M, hM⟩ : ∃ M, M = (w.alloc (.cells #[.int .i64 t.kind, .int .i64 t.num, .string t.name, .slice A L c] 24)).alloc (.cells #[.int .i64 0, .int .i64 0, .string ⟨#[]⟩, .slice none 0 0] 24) := ⟨_, rfl⟩
    have hMs : M.heap.size = w.heap.size + 2 := by rw [hM]; simp
    have hMb : Below w.heap.size w M := by rw [hM]; exact ((Below.refl _ w).alloc (Nat.le_refl _) _).alloc (by simp) _
    have hM0 : M.heap[w.heap.size]? = some (.cells #[.int .i64 t.kind, .int .i64 t.num, .string t.name, .slice A L c] 24) := by
      rw [hM, Below.heap_alloc _ _ _ (by simp)]
      exact heap_alloc_new w _
    have hM1 : M.heap[w.heap.size + 1]? = some (.cells #[.int .i64 0, .int .i64 0, .string ⟨#[]⟩, .slice none 0 0] 24) := by
      rw [hM]
      have := heap_alloc_new (w.alloc (.cells #[.int .i64 t.kind, .int .i64 t.num, .string t.name, .slice A L c] 24)) (.cells #[.int .i64 0, .int .i64 0, .string ⟨#[]⟩, .slice none 0 0] 24)
      rwa [World.size_alloc] at this
    have HMs := Lib.hid hMs
    have HM := Lib.hid hMb
    have HME := Lib.hid hM
    have HM0 := Lib.hid hM0
    have HM1 := Lib.hid hM1
    by_cases hk : t.kind = 1
    · obtain ⟨ha, hn0, hn1, hv⟩ := var_args hok hk
      have HV := Lib.hid (fillF_var (ws := ws) hk)
      have HTV := Lib.hid hv
      have hL0 : L = 0 := by rw [hL, ha]; rfl
      clear hr hf hA hn ih hok hM hMs hMb hM0 hM1 hW hrw hv ha hL
      unfold tv
      rw [← HL.out, ← HLW.out]
      rw [← HLW.out] at hws hcw HRW HWA
      rw [hL0] at HM0 HME ⊢
      rw [hk] at HM0 HME ⊢
      clear hk hL0 hLw hcw
      obtain ⟨m, hm⟩ : ∃ m, m = t.num := ⟨_, rfl⟩
      have HMM := Lib.hid hm
      rw [← hm] at hn0 hn1 HM0 HME HV HTV ⊢
      clear hm
      obtain ⟨z, hz⟩ : ∃ z, z = t.name := ⟨_, rfl⟩
      have HZ := Lib.hid hz
      rw [← hz] at HM0 HME ⊢
      clear hz
      by_cases hw0 : Lw = 0
      · subst hw0
        go_enter Tryd.func19, Tryd.ntmps19
        go_wp2_with fail
        refine bodyPost_ret (v := .agg #[.int .i64 1, .int .i64 m, .string z, .slice A 0 c]) (results_cell_row rfl _ _ (w.heap.size + 1) 24 #[.int .i64 1, .int .i64 m, .string z, .slice A 0 c] (0, 0) _ rfl (blk_second w _ _) Tryd.underlying24 rfl infoTy4) rfl ?_
        have e1 : fillF ws t = var m := by rw [HV.out, List.eq_nil_of_length_eq_zero HLW.out.symm]; rfl
        have e2 : z = ⟨#[]⟩ := by rw [HZ.out, HTV.out]; rfl
        rw [e1, e2]
        exact ⟨A, c, rfl, Lib.hid (IsA.nil _ _ _ _), ((Below.refl _ w).alloc (Nat.le_refl _) _).alloc (by simp) _⟩
      · obtain ⟨j, hj⟩ : ∃ j, j = m.toNat % Lw := ⟨_, rfl⟩
        have hjl : j < Lw := by rw [hj]; exact Nat.mod_lt _ (by omega)
        have hmod : m % (Lw : Int) = (j : Int) := by
          rw [hj, Int.natCast_emod, Int.toNat_of_nonneg hn0]
        obtain ⟨u, hu⟩ : ∃ u, ws[j]? = some u := ⟨_, List.getElem?_eq_getElem (by have := HLW.out; omega)⟩
        have e1 : fillF ws t = u := by
          rw [HV.out]
          exact sub10_at (by rw [← HLW.out, ← hj]; exact hu)
        obtain ⟨g, o, rfl, hg, hel⟩ := HRW.out (by omega)
        obtain ⟨su, c0, c1, c2, c3, hau⟩ := hel j u hu
        have hcl : ∀ j, M.cell? ⟨g, j, none⟩ = w.cell? ⟨g, j, none⟩ := fun j => HM.out.cell (p := ⟨g, j, none⟩) (by show g < _; omega)
        rw [← hcl] at c0 c1 c2 c3
        obtain ⟨Au, cu, rfl, hcu⟩ := hau.form
        have HC := Lib.hid (copyType_any u.wt u _ M (Nat.le_refl _) (hfw u (List.mem_of_getElem? hu)) ((hau.weak (S' := Old w) fun g hg => by unfold Old; omega).after HM.out))
        have HE := Lib.hid e1
        have hjz := Int.natCast_nonneg j
        unfold NewT tv at HC
        obtain ⟨⟨m0, m1, m2, m3⟩, -⟩ := row4 HM0.out
        clear hj e1 hu hel hcl hau HRW HWA
        go_enter Tryd.func19, Tryd.ntmps19
        go_upto_region 4 with fail
        rw [← HME.out]
        go_wp2_with fail
        refine HC.out.mono ?_
        rintro e w2 ⟨Ac, cc, rfl, hic, hb⟩
        have HIC := Lib.hid hic
        have HB := Lib.hid hb
        have hres := (hb.block (w.heap.size + 1) (by have := HMs.out; omega)).trans HM1.out
        have HRS := Lib.hid hres
        obtain ⟨⟨r0, r1, r2, r3⟩, fr0, fr1, fr2, fr3⟩ := row4 hres
        clear hic hb hres
        go_wp2_with fail
        refine bodyPost_ret (v := .agg #[.int .i64 u.kind, .int .i64 u.num, .string u.name, .slice Ac u.args.length cc]) (results_cell_row rfl _ _ (w.heap.size + 1) 24 #[.int .i64 u.kind, .int .i64 u.num, .string u.name, .slice Ac u.args.length cc] (0, 0) _ rfl (put4_blk HRS.out _ _ _ _) Tryd.underlying24 rfl infoTy4) rfl ?_
        rw [HE.out]
        refine ⟨Ac, cc, rfl, Lib.hid ?_, put4_below (HM.out.trans (HB.out.mono HM.out.size)) (by omega) _ _ _ _⟩
        have hms := HMs.out
        refine (HIC.out.same (w' := put4 w2 (w.heap.size + 1) _ _ _ _) (fun g hg => put4_other (by have := hg.1; omega) _ _ _ _)).weak fun g hg => .inr ⟨by have := hg.1; omega, ?_⟩
        show g < (put4 w2 (w.heap.size + 1) _ _ _ _).heap.size
        rw [put4_size]
        exact hg.2
    · have hkb : (t.kind == 1) = false := by simp [hk]
      have HV := Lib.hid (fillF_con (ws := ws) hk)
      obtain ⟨W0, hW0⟩ : ∃ W0, W0 = M.alloc (.cells #[] 24) := ⟨_, rfl⟩
      have hW0b : Below w.heap.size w W0 := by rw [hW0]; exact hMb.alloc (by omega) _
      have hW0s : W0.heap.size = w.heap.size + 3 := by rw [hW0]; simp [hMs]
      have hT0 : Tys (w.heap.size + 2) (fun g => g < B0 ∨ w.heap.size + 2 ≤ g) [] (.slice (some ⟨w.heap.size + 2, 0, none⟩) 0 0) W0 := by
        have := Tys.empty (w.heap.size + 2) (fun g => g < B0 ∨ w.heap.size + 2 ≤ g) M (by omega)
        rw [← hW0, hMs] at this
        exact this
      have hN0 : W0.heap[w.heap.size]? = some (.cells #[.int .i64 t.kind, .int .i64 t.num, .string t.name, .slice A L c] 24) := by rw [hW0, Below.heap_alloc _ _ _ (by omega)]; exact hM0
      have hN1 : W0.heap[w.heap.size + 1]? = some (.cells #[.int .i64 0, .int .i64 0, .string ⟨#[]⟩, .slice none 0 0] 24) := by rw [hW0, Below.heap_alloc _ _ _ (by omega)]; exact hM1
      have HT0 := Lib.hid hT0
      have HN0 := Lib.hid hN0
      have HN1 := Lib.hid hN1
      have HW0 := Lib.hid (show W0 = (((w.alloc (.cells #[.int .i64 t.kind, .int .i64 t.num, .string t.name, .slice A L c] 24)).alloc (.cells #[.int .i64 0, .int .i64 0, .string ⟨#[]⟩, .slice none 0 0] 24)).alloc (.cells #[] 24)) by rw [hW0, hM])
      have HB0 := Lib.hid hW0b
      have HS0 := Lib.hid hW0s
      clear hr hf hA hn ih hok hM hMs hMb hM0 hM1 hW hrw hk HMs HM HME HM0 HM1 hT0 hN0 hN1 hW0 hW0b hW0s HRW
      unfold tv
      rw [← HLW.out]
      rw [← HLW.out] at hws
      rw [← hL] at hc hsz HR ⊢
      clear hL hLw hcw
      go_enter Tryd.func19, Tryd.ntmps19
      go_wp2
      rw [← HW0.out]
      go_loopw [5, 6] (fun v i wr => ∃ k : Nat, k ≤ L ∧ i = .int .i64 k ∧ RowKit.Hid (Tys (w.heap.size + 2) (fun g => g < B0 ∨ w.heap.size + 2 ≤ g) ((t.args.map (fillF ws)).take k) v wr) ∧ RowKit.Hid (Below (w.heap.size + 2) W0 wr)) (fun _ i _ => L - (RowKit.intOf i).toNat)
      case atStart => exact ⟨0, by omega, rfl, Lib.hid HT0.out, Lib.hid (Below.refl _ _)⟩
      case round =>
        obtain ⟨k, hk, rfl, HT, HB⟩ := hrel
        have hsz2 := HB.out.size
        have hs0 := HS0.out
        obtain ⟨b0, b1, b2, b3⟩ := boxT_of ((HB.out.block w.heap.size (by omega)).trans HN0.out)
        have HBw := Lib.hid (HB0.out.trans (HB.out.mono (by omega)))
        by_cases hlt : k < L
        · obtain ⟨g, o, rfl, hg, hr⟩ := HR.out (by omega)
          obtain ⟨x, hx⟩ : ∃ x, t.args[k]? = some x := ⟨_, List.getElem?_eq_getElem (by have := HL.out; omega)⟩
          have hxm := List.mem_of_getElem? hx
          obtain ⟨sx, c0, c1, c2, c3, hax⟩ := hr k x hx
          have hcl : ∀ j, wr.cell? ⟨g, j, none⟩ = w.cell? ⟨g, j, none⟩ := fun j => HBw.out.cell (p := ⟨g, j, none⟩) (by show g < _; omega)
          rw [← hcl] at c0 c1 c2 c3
          obtain ⟨Ax, cx, rfl, hcx⟩ := hax.form
          have hbl : ∀ {ls : List Ty} {v : Value}, IsA w (fun g => g < B0) ls v → IsA wr (fun g => g < B0) ls v := fun h => h.same fun g hg => HBw.out.block g (by omega)
          have HC := Lib.hid (HI.out x _ wr (by have := Ty.wt_lt hxm; have := HN.out; omega) (HF.out.arg hxm) (HOK.out.arg hxm) (by omega) (hbl hax) (hbl HWA.out))
          rw [← HLW.out] at HC
          have HX := Lib.hid (take_snoc (l := t.args.map (fillF ws)) (k := k) (x := fillF ws x) (by rw [List.getElem?_map, hx]; rfl))
          have hwl : w.heap.size + 3 ≤ wr.heap.size := by omega
          unfold FillPost tv at HC
          clear hx hxm hax hr hcl hbl
          obtain ⟨Av, cv, rfl⟩ := HT.out.len
          have hklen : ((t.args.map (fillF ws)).take k).length = k := by rw [List.length_take, List.length_map]; have := HL.out; omega
          rw [hklen] at HT ⊢
          have HKL := Lib.hid hklen
          clear hklen
          obtain ⟨y, hy⟩ : ∃ y, y = fillF ws x := ⟨_, rfl⟩
          rw [← hy] at HC HX
          clear hy hs0
          go_wp2_with (first | (go_at_call 19; with_reducible (refine HC.out.mono ?_); rintro e w1 ⟨Ay, cy, rfl, hn1, hb1⟩; obtain ⟨ps, -, ho, hnx⟩ := tys_round2 HKL.out HT.out (fun g hg => hb1.block g hg) hb1.size (by omega) (by omega) hn1.out; have HO := Lib.hid ho; have HNX := Lib.hid hnx; have HPL := Lib.hid (ty_plain hn1.out); have HB1 := Lib.hid hb1; have hs1 := hb1.size; clear hn1 hb1 ho hnx) | (at_builtin; refine wpList_append_own_at _ rfl _ _ 22 rfl (w.heap.size + 2) 24 i0 _ 4 56 Tryd.underlying22 hi hz0 hz1 hz2 rfl (by decide) _ _ _ rfl (HO.out.alloc _) ⟨w1.heap.size, 0, none⟩ 1 1 (tyCells y (.slice Ay y.args.length cy)) rfl rfl (ty_news _ _ _ _) HPL.out (by unfold maxLen; omega) (by omega) (by simp; omega) ?_; intro v' w3 hown hgrow hnil hloc; have HST := Lib.hid (HNX.out v' w3 _ hown hgrow hloc); clear hown hgrow hnil hloc))
          go_roundw
          case rel => exact ⟨k + 1, by omega, by go_num, Lib.hid (by rw [HX.out]; exact HST.out.1), Lib.hid (HB.out.trans ((HB1.out.mono (by omega)).trans HST.out.2))⟩
          case measure => simp [RowKit.intOf]; omega
        · have hkL : k = L := by omega
          subst hkL
          have HT2 := HT.out
          rw [List.take_of_length_le (by rw [List.length_map]; have := HL.out; omega)] at HT2
          obtain ⟨Av, cv, rfl⟩ := HT2.len
          have HTN := Lib.hid HT2
          rw [List.length_map, ← HL.out] at HTN ⊢
          obtain ⟨-, fz0, fz1, fz2, fz3⟩ := row4 ((HB.out.block w.heap.size (by omega)).trans HN0.out)
          have hres := (HB.out.block (w.heap.size + 1) (by omega)).trans HN1.out
          obtain ⟨⟨r0, r1, r2, r3⟩, fr0, fr1, fr2, fr3⟩ := row4 hres
          have HRS := Lib.hid hres
          clear HT HT2 hres hs0
          go_wp2_with fail
          refine bodyPost_ret (v := .agg #[.int .i64 t.kind, .int .i64 t.num, .string t.name, .slice Av k cv]) (results_cell_row rfl _ _ (w.heap.size + 1) 24 #[.int .i64 t.kind, .int .i64 t.num, .string t.name, .slice Av k cv] (0, 0) _ rfl (put4_blk (blk_other (a := ⟨w.heap.size, 3, none⟩) HRS.out (by simp)) _ _ _ _) Tryd.underlying24 rfl infoTy4) rfl ?_
          rw [HV.out]
          have el : (Ty.mk t.kind t.num t.name (t.args.map (fillF ws))).args.length = k := by
            show (t.args.map _).length = k
            rw [List.length_map, ← HL.out]
          refine ⟨Av, cv, by rw [el]; rfl, Lib.hid ?_, put4_below (HBw.out.setCell (p := ⟨w.heap.size, 3, none⟩) (Nat.le_refl _) _) (by omega) _ _ _ _⟩
          rw [el]
          show IsA _ _ (t.args.map (fillF ws)) _
          refine (HTN.out.isA.same (fun g hg => ?_)).weak fun g hg => ?_
          · have : g ≠ w.heap.size ∧ g ≠ w.heap.size + 1 := by rcases hg.1 with (h | h) | h <;> omega
            exact (put4_other (W := wr.setCell ⟨w.heap.size, 3, none⟩ _) this.2 _ _ _ _).trans (blk_other (a := ⟨w.heap.size, 3, none⟩) rfl (by show g ≠ w.heap.size; exact this.1))
          · have h2 := hg.2
            have h3 : (put4 (wr.setCell ⟨w.heap.size, 3, none⟩ (.slice Av k cv)) (w.heap.size + 1) (.int .i64 t.kind) (.int .i64 t.num) (.string t.name) (.slice Av k cv)).heap.size = wr.heap.size := by
              rw [put4_size]
              simp [World.setCell]
            rcases hg.1 with (h | h) | h
            · exact .inl h
            · exact .inr ⟨by omega, h3 ▸ h2⟩
            · exact .inr ⟨by omega, h3 ▸ h2⟩
end Go.Proofs.YtmpmibebkflaiaaDoor
