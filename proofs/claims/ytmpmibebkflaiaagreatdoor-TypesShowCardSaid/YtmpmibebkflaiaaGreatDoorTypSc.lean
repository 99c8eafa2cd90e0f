/- The contracts of the reference's Renamed, Close, Show. -/
import Derived.Test.YtmpmibebkflaiaaGreatDoorTypSx
namespace Go.Proofs.YtmpmibebkflaiaaGreatDoor
open Go.RowKit Go.Lib Go.Shelf Go.Sort Tp
set_option maxRecDepth 100000
set_option linter.unusedVariables false
set_option linter.unusedSectionVars false

theorem blk_second (w : World) (x y : Obj) : ((w.alloc x).alloc y).heap[w.heap.size + 1]? = some y := by
  have := heap_alloc_new (w.alloc x) y
  rwa [World.size_alloc] at this
theorem var_args {t : Ty} (h : okT nameB t) (hk : t.kind = 1) : t.args = [] ∧ 0 ≤ t.num ∧ t.num < 1073741824 ∧ t = var t.num := by
  obtain ⟨h1, h2, h3⟩ := rp_var h.self hk
  exact ⟨by rw [h1]; rfl, h2, h3, h1⟩
theorem place_yes {l : List Int} {n : Int} {k : Nat} (h0 : ∀ j : Nat, j < k → l[j]? ≠ some n) (h1 : l[k]? = some n) : place l n = some k := by
  unfold place
  obtain ⟨hk, hx⟩ := List.getElem?_eq_some_iff.1 h1
  rw [List.findIdx?_eq_some_iff_getElem]
  refine ⟨hk, by simp [hx], fun j hj => ?_⟩
  have := h0 j hj
  rw [List.getElem?_eq_getElem (by omega)] at this
  simpa using this
theorem place_no {l : List Int} {n : Int} (h0 : ∀ j : Nat, l[j]? ≠ some n) : place l n = none := by
  unfold place
  rw [List.findIdx?_eq_none_iff]
  intro x hx
  obtain ⟨j, hj, rfl⟩ := List.getElem_of_mem hx
  have := h0 j
  rw [List.getElem?_eq_getElem hj] at this
  simpa using this
theorem renamed_var {l : List Int} {t : Ty} (hk : t.kind = 1) : renamed l t = match place l t.num with | some i => var i | none => var t.num := subst_var hk
theorem renamed_con {l : List Int} {t : Ty} (hk : t.kind ≠ 1) : renamed l t = .mk t.kind t.num t.name (t.args.map (renamed l)) := subst_con hk
theorem new_zero {w W : World} {t : Ty} {g : Nat} (hb : Below w.heap.size w W) (hg : w.heap.size ≤ g) (ht : t.args = []) (a b c : Value) : IsA (put4 W g a b c (.slice none 0 0)) (New w.heap.size (put4 W g a b c (.slice none 0 0))) t.args (.slice none t.args.length 0) := by
  rw [ht]
  exact IsA.nil _ _ _ _
set_option maxHeartbeats 4000000 in
theorem renamed_any (l : List Int) (Bl : Nat) (vl : Value) (hl : l.length ≤ 1000000) (n : Nat) : ∀ (t : Ty) (s : Value) (w : World), t.wt ≤ n → fit t → okT nameB t → IRow Bl l vl w → IsA w (Old w) t.args s →
    Calls Tryz.prog 19 #[tv t s, vl] w (NewT w (renamed l t)) := by
  induction n with
  | zero => intro t s w hn; have := Ty.wt_eq t; omega
  | succ n ih =>
    intro t s w hn hf hok hI hA
    obtain ⟨i0, hi, hz0, hz1, hz2⟩ := info_parts infoTy
    obtain ⟨A, c, rfl, hc, hr⟩ := argsT_of hA
    obtain ⟨Al, cl, rfl⟩ := hI.form
    have HR := Lib.hid hr
    have HIL := Lib.hid hI
    have HF := Lib.hid hf
    have HOK := Lib.hid hok
    have HN := Lib.hid hn
    have HI := Lib.hid ih
    have hsz := hf.self.2
    obtain ⟨L, hL⟩ : ∃ L, L = t.args.length := ⟨_, rfl⟩
    have HL := Lib.hid hL
    obtain ⟨Ll, hLl⟩ : ∃ L, L = l.length := ⟨_, rfl⟩
    have HLL := Lib.hid hLl
    obtain ⟨M, hM⟩ : ∃ M, M = (w.alloc (.cells #[.int .i64 t.kind, .int .i64 t.num, .string t.name, .slice A L c] 24)).alloc (.cells #[.int .i64 0, .int .i64 0, .string ⟨#[]⟩, .slice none 0 0] 24) := ⟨_, rfl⟩
    have hMs : M.heap.size = w.heap.size + 2 := by rw [hM]; simp
    have hMb : Below w.heap.size w M := by rw [hM]; exact ((Below.refl _ w).alloc (Nat.le_refl _) _).alloc (by simp) _
    have hM0 : M.heap[w.heap.size]? = some (.cells #[.int .i64 t.kind, .int .i64 t.num, .string t.name, .slice A L c] 24) := by
      rw [hM, Below.heap_alloc _ _ _ (by simp)]
      exact heap_alloc_new w _
    have hM1 : M.heap[w.heap.size + 1]? = some (.cells #[.int .i64 0, .int .i64 0, .string ⟨#[]⟩, .slice none 0 0] 24) := by
      rw [hM]
      have := heap_alloc_new (w.alloc (.cells #[.int .i64 t.kind, .int .i64 t.num, .string t.name, .slice A L c] 24)) (.cells #[.int .i64 0, .int .i64 0, .string ⟨#[]⟩, .slice none 0 0] 24)
      rwa [World.size_alloc] at this
    have HMs := Lib.hid hMs
    have HM := Lib.hid hMb
    have HME := Lib.hid hM
    have HM0 := Lib.hid hM0
    have HM1 := Lib.hid hM1
    by_cases hk : t.kind = 1
    · obtain ⟨ha, hn0, hn1, hv⟩ := var_args hok hk
      have HYES := Lib.hid (fun (k : Nat) (h0 : ∀ j : Nat, j < k → l[j]? ≠ some t.num) (h1 : l[k]? = some t.num) => show renamed l t = var k by rw [renamed_var hk, place_yes h0 h1])
      have HNO := Lib.hid (fun (h0 : ∀ j : Nat, l[j]? ≠ some t.num) => show renamed l t = var t.num by rw [renamed_var hk, place_no h0])
      have HTV := Lib.hid hv
      have hL0 : L = 0 := by rw [hL, ha]; rfl
      have HIM := Lib.hid (hI.keep hMb)
      clear hr hf hA hn ih hok hM hMs hMb hM0 hM1 hI hv ha hL HIL
      unfold tv
      rw [← HL.out, ← hLl]
      rw [← hLl] at hl HIM
      rw [hL0] at HM0 HME ⊢
      rw [hk] at HM0 HME ⊢
      clear hk hL0 hLl
      obtain ⟨m, hm⟩ : ∃ m, m = t.num := ⟨_, rfl⟩
      have HMM := Lib.hid hm
      rw [← hm] at hn0 hn1 HM0 HME HYES HNO HTV ⊢
      clear hm
      obtain ⟨z, hz⟩ : ∃ z, z = t.name := ⟨_, rfl⟩
      have HZ := Lib.hid hz
      rw [← hz] at HM0 HME ⊢
      clear hz
      obtain ⟨⟨q0, q1, q2, q3⟩, -⟩ := row4 HM0.out
      go_enter Tryz.func19, Tryz.ntmps19
      go_wp2
      rw [← HME.out]
      go_loopw [5] (fun i wr => ∃ k : Nat, k ≤ Ll ∧ i = .int .i64 k ∧ RowKit.Hid (∀ j, j < k → l[j]? ≠ some m) ∧ RowKit.Hid (∃ q, wr = M.drewN q)) (fun i _ => Ll - (RowKit.intOf i).toNat)
      case atStart => exact ⟨0, by omega, rfl, Lib.hid (fun j h => by omega), Lib.hid ⟨0, rfl⟩⟩
      case round =>
        obtain ⟨k, hk, rfl, HNX, HD⟩ := hrel
        obtain ⟨q, hq⟩ := HD.out
        have hdd : ∀ p : Addr, wr.cell? p = M.cell? p := fun p => by
          rw [hq]
          rfl
        rw [← hdd] at q0 q1 q2 q3
        have HDQ := Lib.hid hq
        have hMB2 : Below w.heap.size w wr := by rw [hq]; exact below_drewN HM.out q
        have HMB2 := Lib.hid hMB2
        have HRS := Lib.hid (show wr.heap[w.heap.size + 1]? = some (.cells #[.int .i64 0, .int .i64 0, .string ⟨#[]⟩, .slice none 0 0] 24) by rw [hq]; exact HM1.out)
        clear hMB2
        by_cases hlt : k < Ll
        · obtain ⟨x, hx⟩ : ∃ x, l[k]? = some x := ⟨_, List.getElem?_eq_getElem (by have := HLL.out; omega)⟩
          obtain ⟨gb, rfl, hgB, hgs, -, hcx⟩ := HIM.out.at hx
          rw [← hdd] at hcx
          have HXX := Lib.hid hx
          by_cases hxn : x = m
          · have hb : (x == m) = true := by simp [hxn]
            have HY := Lib.hid (HYES.out k HNX.out (by rw [hx, hxn]))
            clear hxn hdd hq hx
            go_wp2
            go_quiet (fail)
            generalize hW3 : wr.drewN nq = W3
            have HW3b := Lib.hid (show Below w.heap.size w W3 by rw [← hW3]; exact below_drewN HMB2.out nq)
            have hres : W3.heap[w.heap.size + 1]? = some (.cells #[.int .i64 0, .int .i64 0, .string ⟨#[]⟩, .slice none 0 0] 24) := by rw [← hW3]; exact HRS.out
            have HRS3 := Lib.hid hres
            obtain ⟨⟨r0, r1, r2, r3⟩, fr0, fr1, fr2, fr3⟩ := row4 hres
            clear hW3 hres
            go_wp2_with fail
            refine bodyPost_ret (v := .agg #[.int .i64 1, .int .i64 k, .string ⟨#[]⟩, .slice none 0 0]) (results_cell_row rfl _ _ (w.heap.size + 1) 24 #[.int .i64 1, .int .i64 k, .string ⟨#[]⟩, .slice none 0 0] (0, 0) _ rfl (put4_blk HRS3.out _ _ _ _) Tryz.underlying24 rfl infoTy4) rfl ?_
            rw [HY.out]
            exact ⟨none, 0, rfl, Lib.hid (new_zero (t := var k) HW3b.out (by omega) rfl _ _ _), put4_below HW3b.out (by omega) _ _ _ _⟩
          · have hb : (x == m) = false := by simp [hxn]
            have HY := Lib.hid hxn
            clear hxn hdd hq hx
            go_wp2
            go_quiet (fail)
            go_wp2
            go_roundw
            case rel => exact ⟨k + 1, by omega, by go_num, Lib.hid (fun j hj => by
              rcases Nat.lt_or_ge j k with h | h
              · exact HNX.out j h
              · obtain rfl : j = k := by omega
                rw [HXX.out]
                simpa using HY.out), Lib.hid ⟨_, by rw [HDQ.out, World.drewN_drewN]⟩⟩
            case measure => simp [RowKit.intOf]; omega
        · have HY := Lib.hid (HNO.out fun j => by
            rcases Nat.lt_or_ge j Ll with h | h
            · exact HNX.out j (by omega)
            · rw [List.getElem?_eq_none (by have := HLL.out; omega)]
              simp)
          have hres := HRS.out
          obtain ⟨⟨r0, r1, r2, r3⟩, fr0, fr1, fr2, fr3⟩ := row4 hres
          clear hdd hq hres
          go_wp2_with fail
          refine bodyPost_ret (v := .agg #[.int .i64 1, .int .i64 m, .string z, .slice A 0 c]) (results_cell_row rfl _ _ (w.heap.size + 1) 24 #[.int .i64 1, .int .i64 m, .string z, .slice A 0 c] (0, 0) _ rfl (put4_blk HRS.out _ _ _ _) Tryz.underlying24 rfl infoTy4) rfl ?_
          have e2 : z = ⟨#[]⟩ := by rw [HZ.out, HTV.out]; rfl
          rw [HY.out, e2]
          exact ⟨A, c, rfl, Lib.hid (IsA.nil _ _ _ _), put4_below HMB2.out (by omega) _ _ _ _⟩
    · have hkb : (t.kind == 1) = false := by simp [hk]
      have HV := Lib.hid (renamed_con (l := l) hk)
      obtain ⟨W0, hW0⟩ : ∃ W0, W0 = M.alloc (.cells #[] 24) := ⟨_, rfl⟩
      have hW0b : Below w.heap.size w W0 := by rw [hW0]; exact hMb.alloc (by omega) _
      have hW0s : W0.heap.size = w.heap.size + 3 := by rw [hW0]; simp [hMs]
      have hT0 : Tys (w.heap.size + 2) (fun g => w.heap.size + 2 ≤ g) [] (.slice (some ⟨w.heap.size + 2, 0, none⟩) 0 0) W0 := by
        have := Tys.empty (w.heap.size + 2) (fun g => w.heap.size + 2 ≤ g) M (by omega)
        rw [← hW0, hMs] at this
        exact this
      have hN0 : W0.heap[w.heap.size]? = some (.cells #[.int .i64 t.kind, .int .i64 t.num, .string t.name, .slice A L c] 24) := by rw [hW0, Below.heap_alloc _ _ _ (by omega)]; exact hM0
      have hN1 : W0.heap[w.heap.size + 1]? = some (.cells #[.int .i64 0, .int .i64 0, .string ⟨#[]⟩, .slice none 0 0] 24) := by rw [hW0, Below.heap_alloc _ _ _ (by omega)]; exact hM1
      have HT0 := Lib.hid hT0
      have HN0 := Lib.hid hN0
      have HN1 := Lib.hid hN1
      have HW0 := Lib.hid (show W0 = (((w.alloc (.cells #[.int .i64 t.kind, .int .i64 t.num, .string t.name, .slice A L c] 24)).alloc (.cells #[.int .i64 0, .int .i64 0, .string ⟨#[]⟩, .slice none 0 0] 24)).alloc (.cells #[] 24)) by rw [hW0, hM])
      have HB0 := Lib.hid hW0b
      have HS0 := Lib.hid hW0s
      clear hr hf hA hn ih hok hM hMs hMb hM0 hM1 hI hk HMs HM HME HM0 HM1 hT0 hN0 hN1 hW0 hW0b hW0s
      unfold tv
      rw [← HLL.out]
      rw [← hL] at hc hsz HR ⊢
      clear hL hLl
      go_enter Tryz.func19, Tryz.ntmps19
      go_wp2
      rw [← HW0.out]
      go_loopw [6, 7] (fun v i wr => ∃ k : Nat, k ≤ L ∧ i = .int .i64 k ∧ RowKit.Hid (Tys (w.heap.size + 2) (fun g => w.heap.size + 2 ≤ g) ((t.args.map (renamed l)).take k) v wr) ∧ RowKit.Hid (Below (w.heap.size + 2) W0 wr)) (fun _ i _ => L - (RowKit.intOf i).toNat)
      case atStart => exact ⟨0, by omega, rfl, Lib.hid HT0.out, Lib.hid (Below.refl _ _)⟩
      case round =>
        obtain ⟨k, hk, rfl, HT, HB⟩ := hrel
        have hsz2 := HB.out.size
        have hs0 := HS0.out
        obtain ⟨b0, b1, b2, b3⟩ := boxT_of ((HB.out.block w.heap.size (by omega)).trans HN0.out)
        have HBw := Lib.hid (HB0.out.trans (HB.out.mono (by omega)))
        by_cases hlt : k < L
        · obtain ⟨g, o, rfl, hg, hr⟩ := HR.out (by omega)
          obtain ⟨x, hx⟩ : ∃ x, t.args[k]? = some x := ⟨_, List.getElem?_eq_getElem (by have := HL.out; omega)⟩
          have hxm := List.mem_of_getElem? hx
          obtain ⟨sx, c0, c1, c2, c3, hax⟩ := ElsT.at hr hg HBw.out hx
          obtain ⟨Ax, cx, rfl, hcx⟩ := hax.form
          have HC := Lib.hid (HI.out x _ wr (by have := Ty.wt_lt hxm; have := HN.out; omega) (HF.out.arg hxm) (HOK.out.arg hxm) (HIL.out.keep HBw.out) hax)
          rw [← HLL.out] at HC
          have HX := Lib.hid (take_snoc (l := t.args.map (renamed l)) (k := k) (x := renamed l x) (by rw [List.getElem?_map, hx]; rfl))
          have hwl : w.heap.size + 3 ≤ wr.heap.size := by omega
          unfold NewT tv at HC
          clear hx hxm hax hr
          obtain ⟨Av, cv, rfl⟩ := HT.out.len
          have hklen : ((t.args.map (renamed l)).take k).length = k := by rw [List.length_take, List.length_map]; have := HL.out; omega
          rw [hklen] at HT ⊢
          have HKL := Lib.hid hklen
          clear hklen
          obtain ⟨y, hy⟩ : ∃ y, y = renamed l x := ⟨_, rfl⟩
          rw [← hy] at HC HX
          clear hy hs0
          go_wp2_with (first | (go_at_call 19; with_reducible (refine HC.out.mono ?_); rintro e w1 ⟨Ay, cy, rfl, hn1, hb1⟩; obtain ⟨ps, -, ho, hnx⟩ := tys_round HKL.out HT.out (fun g _ hg => hb1.block g hg) hb1.size (by omega) hn1.out; have HO := Lib.hid ho; have HNX := Lib.hid hnx; have HPL := Lib.hid (ty_plain hn1.out); have HB1 := Lib.hid hb1; have hs1 := hb1.size; clear hn1 hb1 ho hnx) | (at_builtin; refine wpList_append_own_at _ rfl _ _ 22 rfl (w.heap.size + 2) 24 i0 _ 4 56 Tryz.underlying22 hi hz0 hz1 hz2 rfl (by decide) _ _ _ rfl (HO.out.alloc _) ⟨w1.heap.size, 0, none⟩ 1 1 (tyCells y (.slice Ay y.args.length cy)) rfl rfl (ty_news _ _ _ _) HPL.out (by unfold maxLen; omega) (by omega) (by simp; omega) ?_; intro v' w3 hown hgrow hnil hloc; have HST := Lib.hid (HNX.out v' w3 _ hown hgrow hloc); clear hown hgrow hnil hloc))
          go_roundw
          case rel => exact ⟨k + 1, by omega, by go_num, Lib.hid (by rw [HX.out]; exact HST.out.1), Lib.hid (HB.out.trans ((HB1.out.mono (by omega)).trans HST.out.2))⟩
          case measure => simp [RowKit.intOf]; omega
        · have hkL : k = L := by omega
          subst hkL
          have HT2 := HT.out
          rw [List.take_of_length_le (by rw [List.length_map]; have := HL.out; omega)] at HT2
          obtain ⟨Av, cv, rfl⟩ := HT2.len
          have HTN := Lib.hid HT2
          rw [List.length_map, ← HL.out] at HTN ⊢
          obtain ⟨-, fz0, fz1, fz2, fz3⟩ := row4 ((HB.out.block w.heap.size (by omega)).trans HN0.out)
          have hres := (HB.out.block (w.heap.size + 1) (by omega)).trans HN1.out
          obtain ⟨⟨r0, r1, r2, r3⟩, fr0, fr1, fr2, fr3⟩ := row4 hres
          have HRS := Lib.hid hres
          clear HT HT2 hres hs0
          go_wp2_with fail
          refine bodyPost_ret (v := .agg #[.int .i64 t.kind, .int .i64 t.num, .string t.name, .slice Av k cv]) (results_cell_row rfl _ _ (w.heap.size + 1) 24 #[.int .i64 t.kind, .int .i64 t.num, .string t.name, .slice Av k cv] (0, 0) _ rfl (put4_blk (blk_other (a := ⟨w.heap.size, 3, none⟩) HRS.out (by simp)) _ _ _ _) Tryz.underlying24 rfl infoTy4) rfl ?_
          rw [HV.out]
          have el : (Ty.mk t.kind t.num t.name (t.args.map (renamed l))).args.length = k := by
            show (t.args.map _).length = k
            rw [List.length_map, ← HL.out]
          refine ⟨Av, cv, by rw [el]; rfl, Lib.hid ?_, put4_below (HBw.out.setCell (p := ⟨w.heap.size, 3, none⟩) (Nat.le_refl _) _) (by omega) _ _ _ _⟩
          rw [el]
          show IsA _ _ (t.args.map (renamed l)) _
          refine (HTN.out.isA.same (fun g hg => ?_)).weak fun g hg => ?_
          · have : w.heap.size + 2 ≤ g := hg.1.elim id id
            exact (put4_other (W := wr.setCell ⟨w.heap.size, 3, none⟩ _) (by omega) _ _ _ _).trans (blk_other (a := ⟨w.heap.size, 3, none⟩) rfl (by show g ≠ w.heap.size; omega))
          · have : w.heap.size + 2 ≤ g := hg.1.elim id id
            have h2 := hg.2
            have h3 : (put4 (wr.setCell ⟨w.heap.size, 3, none⟩ (.slice Av k cv)) (w.heap.size + 1) (.int .i64 t.kind) (.int .i64 t.num) (.string t.name) (.slice Av k cv)).heap.size = wr.heap.size := by
              rw [put4_size]
              simp [World.setCell]
            exact ⟨by omega, h3 ▸ h2⟩
end Go.Proofs.YtmpmibebkflaiaaGreatDoor
