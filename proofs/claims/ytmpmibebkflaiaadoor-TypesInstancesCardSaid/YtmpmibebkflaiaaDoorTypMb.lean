/- The contract of the reference's match, at a variable. -/
import Derived.Test.YtmpmibebkflaiaaDoorTypMa
import Derived.Deep.RegionLaw
namespace Go.Proofs.YtmpmibebkflaiaaDoor
open Go.RowKit Go.Lib Go.Shelf Go.Sort Tp
set_option maxRecDepth 100000
set_option linter.unusedVariables false
set_option linter.unusedSectionVars false

theorem look_none {f : List (Int × Ty)} {n : Int} (h : ∀ j : Nat, (f.map (·.1))[j]? ≠ some n) : Tp.look f n = none := by
  unfold Tp.look
  rw [Option.map_eq_none_iff, List.find?_eq_none]
  intro x hx
  obtain ⟨j, hj, rfl⟩ := List.getElem_of_mem hx
  have := h j
  rw [List.getElem?_map, List.getElem?_eq_getElem hj] at this
  simpa using this
theorem look_some : ∀ {f : List (Int × Ty)} {n : Int} {k : Nat} {x : Ty}, (∀ j : Nat, j < k → (f.map (·.1))[j]? ≠ some n) → (f.map (·.1))[k]? = some n → (f.map (·.2))[k]? = some x → Tp.look f n = some x
  | [], n, k, x, _, h, _ => by simp at h
  | p :: f, n, 0, x, _, h, hx => by
    simp at h hx
    unfold Tp.look
    simp [h, hx]
  | p :: f, n, k + 1, x, h0, h, hx => by
    have h1 := h0 0 (by omega)
    simp at h1
    have ih := look_some (f := f) (n := n) (k := k) (x := x) (fun j hj => by have := h0 (j + 1) (by omega); simpa using this) (by simpa using h) (by simpa using hx)
    unfold Tp.look at *
    rw [List.find?_cons]
    simp only [show (p.1 == n) = false by simpa using h1]
    exact ih
theorem fits_var_some {f : List (Int × Ty)} {g t x : Ty} (hk : g.kind = 1) (h : Tp.look f g.num = some x) : fits f g t = (sameF x t, f) := by rw [fits_eq, if_pos hk, h]
theorem fits_var_none {f : List (Int × Ty)} {g t : Ty} (hk : g.kind = 1) (h : Tp.look f g.num = none) : fits f g t = (true, f ++ [(g.num, t)]) := by rw [fits_eq, if_pos hk, h]
/-- an element of a row of types. -/
theorem TRow.at {B : Nat} {m : List Ty} {w : World} {A : Option Addr} {n c : Nat} (h : TRow B m (.slice A n c) w) {k : Nat} {x : Ty} (hx : m[k]? = some x) :
    ∃ g o s, A = some ⟨g, o, none⟩ ∧ n = m.length ∧ w.cell? ⟨g, o + k * 4, none⟩ = some (.int .i64 x.kind) ∧ w.cell? ⟨g, o + k * 4 + 1, none⟩ = some (.int .i64 x.num) ∧ w.cell? ⟨g, o + k * 4 + 2, none⟩ = some (.string x.name) ∧ w.cell? ⟨g, o + k * 4 + 3, none⟩ = some s ∧ IsA w (Old w) x.args s := by
  obtain ⟨A', c', e, -, hr⟩ := (Tys.isA h).open
  simp only [Value.slice.injEq] at e
  obtain ⟨rfl, rfl, rfl⟩ := e
  have hk : k < m.length := (List.getElem?_eq_some_iff.1 hx).1
  obtain ⟨g, o, rfl, -, he⟩ := hr (by omega)
  obtain ⟨s, c0, c1, c2, c3, ha⟩ := he k x hx
  exact ⟨g, o, s, rfl, rfl, c0, c1, c2, c3, ha.weak fun _ h => h.2⟩
theorem bool_same (b c : Bool) (h : b = c) : Value.bool b = .bool c := by rw [h]
/-- a new block's cells. -/
def News (lo : Nat) (cs : List Value) (nb : Nat) (W : World) : Prop := lo ≤ nb ∧ nb < W.heap.size ∧ ∀ (j : Nat) (u : Value), cs[j]? = some u → W.cell? ((⟨nb, 0, none⟩ : Addr).add j) = some u
theorem News.same {lo nb : Nat} {cs : List Value} {W W' : World} (h : News lo cs nb W) (hb : W'.heap[nb]? = W.heap[nb]?) (hs : W.heap.size ≤ W'.heap.size) : News lo cs nb W' :=
  ⟨h.1, by have := h.2.1; omega, fun j u hj => (World.cell?_of_block (w := W) (w' := W') (a := (⟨nb, 0, none⟩ : Addr).add j) (by have e : ((⟨nb, 0, none⟩ : Addr).add j).block = nb := (by unfold Addr.add; first | rfl | (split <;> rfl)); rw [e]; exact hb)).trans (h.2.2 j u hj)⟩
theorem News.alloc {lo nb : Nat} {cs : List Value} {W : World} (h : News lo cs nb W) (o : Obj) : News lo cs nb (W.alloc o) := h.same (Below.heap_alloc _ _ _ h.2.1) (by simp)
theorem News.wr {lo nb : Nat} {cs : List Value} {W W' : World} {a a' : Value} (h : News lo cs nb W) (hw : Wr W a W' a') (hne : a.ownBlock = some nb → False) : News lo cs nb W' := h.same (hw.1.block nb h.2.1 fun e => hne e.symm) hw.1.size
theorem News.int (lo : Nat) (W : World) (x : Int) (e : TypeId) (h : lo ≤ W.heap.size) : News lo (intsC [x]) W.heap.size (W.alloc (.cells #[.int .i64 x] e)) := ⟨h, by simp, news_int W x e _ rfl⟩
theorem News.ty (lo : Nat) (W : World) (t : Ty) (s : Value) (e : TypeId) (h : lo ≤ W.heap.size) : News lo (tyCells t s) W.heap.size (W.alloc (.cells #[.int .i64 t.kind, .int .i64 t.num, .string t.name, s] e)) := ⟨h, by simp, ty_news W t s e⟩
set_option maxHeartbeats 8000000 in
theorem match_var (g t : Ty) (f : List (Int × Ty)) (vn vt s1 s2 : Value) (B : Nat) (w : World) (hk : g.kind = 1) (hfg : fit g) (hft : fit t) (hfx : ∀ x ∈ f, fit x.2) (hlen : f.length ≤ 1000000 - 1) (hn : IRow B (f.map (·.1)) vn w) (ht : TRow B (f.map (·.2)) vt w) (hB : B ≤ w.heap.size)
    (hA1 : IsA w (fun g => g < B) g.args s1) (hA2 : IsA w (fun g => g < B) t.args s2) :
    Calls Tryd.prog 24 #[vn, vt, tv g s1, tv t s2] w (MatchPost B (fits f g t).2 (fits f g t).1 vn vt w) := by
  obtain ⟨An, cn, rfl⟩ := hn.form
  obtain ⟨At, ct, rfl⟩ := ht.form
  obtain ⟨A1, c1, rfl, -⟩ := hA1.form
  obtain ⟨A2, c2, rfl, -⟩ := hA2.form
  obtain ⟨M, hM, hbx, hby, hMs, hMb⟩ := two_boxes w g t (.slice A1 g.args.length c1) (.slice A2 t.args.length c2) 24
  have hnM : IRow B (f.map (·.1)) (.slice An (f.map (·.1)).length cn) M := hn.keep hMb
  have htM : TRow B (f.map (·.2)) (.slice At (f.map (·.2)).length ct) M := Tys.below ht hMb
  have hA2M : IsA M (fun g => g < B) t.args (.slice A2 t.args.length c2) := hA2.same fun g hg => hMb.block g (by omega)
  have HYES := Lib.hid (fun (k : Nat) x (h0 : ∀ j : Nat, j < k → (f.map (·.1))[j]? ≠ some g.num) (h1 : (f.map (·.1))[k]? = some g.num) (h2 : (f.map (·.2))[k]? = some x) => fits_var_some (t := t) hk (look_some h0 h1 h2))
  have HNO := Lib.hid (fun (h0 : ∀ j : Nat, (f.map (·.1))[j]? ≠ some g.num) => fits_var_none (t := t) hk (look_none h0))
  have HFX := Lib.hid hfx
  have HFT := Lib.hid hft
  have HNM := Lib.hid hnM
  have HTM := Lib.hid htM
  have HA2 := Lib.hid hA2M
  have HBX := Lib.hid hbx
  have HBY := Lib.hid hby
  have HM := Lib.hid hM
  have HMs := Lib.hid hMs
  have HMb := Lib.hid hMb
  have HKD := Lib.hid hk
  have HBM := Lib.hid (show B ≤ M.heap.size by have := hMb.size; omega)
  have hvn := fun g (e : (Value.slice An (f.map (·.1)).length cn).ownBlock = some g) => (hn.lt g e).2
  have hvt := fun g (e : (Value.slice At (f.map (·.2)).length ct).ownBlock = some g) => (ht.lt g e).2
  obtain ⟨L, hL⟩ : ∃ L, L = f.length := ⟨_, rfl⟩
  have e1 : (f.map (·.1)).length = L := by rw [List.length_map, hL]
  have e2 : (f.map (·.2)).length = L := by rw [List.length_map, hL]
  rw [← hL] at hlen
  rw [e1] at hn hnM HNM hvn ⊢
  rw [e2] at ht htM HTM hvt ⊢
  have HVN := Lib.hid (fun g e => show g < M.heap.size from Nat.lt_of_lt_of_le (hvn g e) hMb.size)
  have HWM2 := Lib.hid (Wr2.still hMb (.slice An L cn) (.slice At L ct))
  have HOW := Lib.hid (And.intro hvn hvt)
  have HLN := Lib.hid e1
  have HLT := Lib.hid e2
  obtain ⟨m, hm⟩ : ∃ m, m = g.num := ⟨_, rfl⟩
  obtain ⟨z, hz⟩ : ∃ z, z = g.name := ⟨_, rfl⟩
  unfold tv
  rw [hk] at HM ⊢
  rw [← hm] at HM HYES HNO ⊢
  rw [← hz] at HM ⊢
  have HBX2 := Lib.hid (show ∀ W : World, (∀ p, W.cell? p = M.cell? p) → W.cell? ⟨w.heap.size, 0, none⟩ = some (.int .i64 1) ∧ W.cell? ⟨w.heap.size, 1, none⟩ = some (.int .i64 m) from fun W h => ⟨(h _).trans (hk ▸ HBX.out.1), (h _).trans (hm ▸ HBX.out.2.1)⟩)
  clear hvn hvt hk hm hz hL e1 e2 hn ht hA1 hA2 hM hbx hby hMs hMb hnM htM hA2M hfg hft hfx HBX HKD
  go_enter Tryd.func24, Tryd.ntmps24
  go_wp2
  rw [← HM.out]
  go_loopw [11] (fun i wr => ∃ k : Nat, k ≤ L ∧ i = .int .i64 k ∧ RowKit.Hid (∀ j, j < k → (f.map (·.1))[j]? ≠ some m) ∧ RowKit.Hid (∃ q, wr = M.drewN q)) (fun i _ => L - (RowKit.intOf i).toNat)
  case atStart => exact ⟨0, by omega, rfl, Lib.hid (fun j h => by omega), Lib.hid ⟨0, rfl⟩⟩
  case round =>
    obtain ⟨k, hk, rfl, HNX, HD⟩ := hrel
    obtain ⟨q, hq⟩ := HD.out
    have hdd : ∀ p : Addr, wr.cell? p = M.cell? p := fun p => by
      rw [hq]
      rfl
    obtain ⟨q0, q1⟩ := HBX2.out wr hdd
    by_cases hlt : k < L
    · obtain ⟨x, hx⟩ : ∃ x, (f.map (·.1))[k]? = some x := ⟨_, List.getElem?_eq_getElem (by have := HLN.out; omega)⟩
      obtain ⟨gb, rfl, hgB, hgs, -, hcx⟩ := HNM.out.at hx
      rw [← hdd] at hcx
      have HDQ := Lib.hid hq
      have HXX := Lib.hid hx
      by_cases hxn : x = m
      · have hb : (x == m) = true := by simp [hxn]
        obtain ⟨y, hy⟩ : ∃ y, (f.map (·.2))[k]? = some y := ⟨_, List.getElem?_eq_getElem (by have := HLT.out; omega)⟩
        obtain ⟨gt, ot, sy, rfl, -, d0, d1, d2, d3, hay⟩ := HTM.out.at hy
        have HFI := Lib.hid (HYES.out k y HNX.out (by rw [hx, hxn]) hy)
        have hym : fit y := by
          obtain ⟨p, hp, rfl⟩ := List.mem_map.1 (List.mem_of_getElem? hy)
          exact HFX.out p hp
        obtain ⟨Ay, cy, rfl, -⟩ := hay.form
        have hEL := Lib.hid (show ∀ W : World, RowKit.Hid (Below M.heap.size M W) → W.cell? ⟨gt, ot + k * 4, none⟩ = some (.int .i64 y.kind) ∧ W.cell? ⟨gt, ot + k * 4 + 1, none⟩ = some (.int .i64 y.num) ∧ W.cell? ⟨gt, ot + k * 4 + 2, none⟩ = some (.string y.name) ∧ W.cell? ⟨gt, ot + k * 4 + 3, none⟩ = some (.slice Ay y.args.length cy) ∧
            W.cell? ⟨w.heap.size + 1, 0, none⟩ = some (.int .i64 t.kind) ∧ W.cell? ⟨w.heap.size + 1, 1, none⟩ = some (.int .i64 t.num) ∧ W.cell? ⟨w.heap.size + 1, 2, none⟩ = some (.string t.name) ∧ W.cell? ⟨w.heap.size + 1, 3, none⟩ = some (.slice A2 t.args.length c2) ∧ RowKit.Hid (Below M.heap.size M W) from fun W hW => by
          have hlo : ∀ j v, M.cell? ⟨gt, j, none⟩ = some v → W.cell? ⟨gt, j, none⟩ = some v := fun j v h => by
            have hlt : gt < M.heap.size := by
              rcases Nat.lt_or_ge gt M.heap.size with h' | h'
              · exact h'
              · unfold World.cell? at h
                rw [Array.getElem?_eq_none h'] at h
                cases h
            exact (hW.out.cell (p := ⟨gt, j, none⟩) hlt).trans h
          obtain ⟨b0, b1, b2, b3⟩ := box_at HBY.out (by have := HMs.out; omega) hW.out
          exact ⟨hlo _ _ d0, hlo _ _ d1, hlo _ _ d2, hlo _ _ d3, b0, b1, b2, b3, hW⟩)
        have HSM := Lib.hid (fun W (hW : RowKit.Hid (Below M.heap.size M W)) => show Calls Tryd.prog 14 #[tv y (.slice Ay y.args.length cy), tv t (.slice A2 t.args.length c2)] W fun e w' => e = .returned (.bool (sameF y t)) ∧ RowKit.Hid (Below W.heap.size W w') from
          (sameType_any y.wt y t _ _ W (Nat.le_refl _) hym (hay.after hW.out) ((HA2.out.weak (S' := Old M) fun g hg => by unfold Old; have := HMs.out; omega).after hW.out)).mono fun e w' h => ⟨h.1, Lib.hid h.2⟩)
        unfold tv at HSM
        obtain ⟨sm, hsm⟩ : ∃ b, b = sameF y t := ⟨_, rfl⟩
        rw [← hsm] at HSM HFI
        have HY := Lib.hid hxn
        have HB0 := Lib.hid (show Below M.heap.size M wr by rw [hq]; exact below_drewN (Below.refl _ _) q)
        clear hxn hsm hdd hq hx hy hay hym d0 d1 d2 d3
        go_wp2
        go_quiet (fail)
        go_upto_region 6 with fail
        generalize hW3 : wr.drewN nq = W3
        have hS0 : RowKit.Hid (Below M.heap.size M W3.drew) := Lib.hid (by rw [← hW3]; exact (below_drewN HB0.out nq).drew)
        clear hW3
        go_region_held3 (fun W => W.cell? ⟨gt, ot + k * 4, none⟩ = some (.int .i64 y.kind) ∧ W.cell? ⟨gt, ot + k * 4 + 1, none⟩ = some (.int .i64 y.num) ∧ W.cell? ⟨gt, ot + k * 4 + 2, none⟩ = some (.string y.name) ∧ W.cell? ⟨gt, ot + k * 4 + 3, none⟩ = some (.slice Ay y.args.length cy) ∧
            W.cell? ⟨w.heap.size + 1, 0, none⟩ = some (.int .i64 t.kind) ∧ W.cell? ⟨w.heap.size + 1, 1, none⟩ = some (.int .i64 t.num) ∧ W.cell? ⟨w.heap.size + 1, 2, none⟩ = some (.string t.name) ∧ W.cell? ⟨w.heap.size + 1, 3, none⟩ = some (.slice A2 t.args.length c2) ∧ RowKit.Hid (Below M.heap.size M W)) (first | exact hEL.out _ hS0 | exact hEL.out _ ‹RowKit.Hid (Below M.heap.size M _)› | exact hEL.out _ (keepW ‹RowKit.Hid (Below _ _ _)› ‹RowKit.Hid (Below M.heap.size M _)›)) (first | (go_at_call 14; with_reducible (refine (HSM.out _ ‹_›).mono ?_); rintro e wn ⟨rfl, hbn⟩; have hbk := keepW hbn ‹_›))
        all_goals
          have hbk2 := RowKit.Hid.out ‹RowKit.Hid (Below M.heap.size M _)›
          go_wp2
          go_ret3
          rw [HFI.out]
          exact ⟨_, _, rfl, Lib.hid (HNM.out.keep hbk2), Lib.hid (Tys.below HTM.out hbk2), Lib.hid (HWM2.out.trans (Wr2.still hbk2 _ _))⟩
      · have hb : (x == m) = false := by simp [hxn]
        have HY := Lib.hid hxn
        clear hxn hdd hq hx
        go_wp2
        go_quiet (fail)
        go_wp2
        go_roundw
        case rel => exact ⟨k + 1, by omega, by go_num, Lib.hid (fun j hj => by
          rcases Nat.lt_or_ge j k with h | h
          · exact HNX.out j h
          · obtain rfl : j = k := by omega
            rw [HXX.out]
            simpa using HY.out), Lib.hid ⟨_, by rw [HDQ.out, World.drewN_drewN]⟩⟩
        case measure => simp [RowKit.intOf]; omega
    · have hkl : k = L := by omega
      have HFI := Lib.hid (HNO.out fun j => by
        rcases Nat.lt_or_ge j L with h | h
        · exact HNX.out j (by omega)
        · rw [List.getElem?_eq_none (by rw [HLN.out]; exact h)]
          simp)
      have HS := Lib.hid (show ∀ (W : World) (a b : Value), Wr2 M (.slice An L cn) (.slice At L ct) W a b → W.cell? ⟨w.heap.size, 1, none⟩ = some (.int .i64 m) ∧ W.cell? ⟨w.heap.size + 1, 0, none⟩ = some (.int .i64 t.kind) ∧ W.cell? ⟨w.heap.size + 1, 1, none⟩ = some (.int .i64 t.num) ∧ W.cell? ⟨w.heap.size + 1, 2, none⟩ = some (.string t.name) ∧ W.cell? ⟨w.heap.size + 1, 3, none⟩ = some (.slice A2 t.args.length c2) from fun W a b h => by
        have hb0 := h.block w.heap.size (by have := HMs.out; omega) (fun e => by have := HOW.out.1 _ e; omega) (fun e => by have := HOW.out.2 _ e; omega)
        have hb1 := h.block (w.heap.size + 1) (by have := HMs.out; omega) (fun e => by have := HOW.out.1 _ e; omega) (fun e => by have := HOW.out.2 _ e; omega)
        have hc : ∀ j, W.cell? ⟨w.heap.size + 1, j, none⟩ = M.cell? ⟨w.heap.size + 1, j, none⟩ := fun j => World.cell?_of_block (w := M) (w' := W) (a := ⟨w.heap.size + 1, j, none⟩) hb1
        refine ⟨(World.cell?_of_block (w := M) (w' := W) (a := ⟨w.heap.size, 1, none⟩) hb0).trans (HBX2.out M fun _ => rfl).2, ?_⟩
        rw [hc, hc, hc, hc]
        exact HBY.out)
      obtain ⟨W0, hW0⟩ : ∃ W0, W0 = wr.drew := ⟨_, rfl⟩
      have hb0 : Below M.heap.size M W0 := by rw [hW0, hq]; exact (below_drewN (Below.refl _ _) q).drew
      have HI0 := Lib.hid (HNM.out.keep hb0)
      have HT0 := Lib.hid (show TRow B (f.map (·.2)) (.slice At L ct) W0 from Tys.below HTM.out hb0)
      have HX0 := Lib.hid (Wr2.still hb0 (.slice An L cn) (.slice At L ct))
      have HA0 := Lib.hid (HA2.out.same fun g hg => hb0.block g (by have := HBM.out; omega))
      clear hdd hq hkl hb0
      go_upto_region 7 with fail
      refine wp_region_held_drew (S := fun W => W.cell? ⟨w.heap.size, 1, none⟩ = some (.int .i64 m) ∧ W.cell? ⟨w.heap.size + 1, 0, none⟩ = some (.int .i64 t.kind) ∧ W.cell? ⟨w.heap.size + 1, 1, none⟩ = some (.int .i64 t.num) ∧ W.cell? ⟨w.heap.size + 1, 2, none⟩ = some (.string t.name) ∧ W.cell? ⟨w.heap.size + 1, 3, none⟩ = some (.slice A2 t.args.length c2)) (by kernel_rfl) (by rw [← hW0]; exact HS.out _ _ _ HX0.out) (fun H0 => ?_)
      rw [← hW0] at H0 ⊢
      clear hW0
      refine take_at (i := 0) (d := some 38) (v := ?_) rfl rfl (by kernel_rfl) (by kernel_rfl) (by kernel_rfl) (fun _ _ _ h => h) (Or.inl ⟨by rfl, ?_⟩) (by assumption) ?_
      rotate_left
      · (intro w hSw; (try dsimp only at hSw); go_simp; try with_reducible rfl)
      try simp only [Act.put, List.setIfInBounds_toArray, List.set_cons_zero, List.set_cons_succ]
      refine take_at (i := 1) (d := some 39) (v := ?_) rfl rfl (by kernel_rfl) (by kernel_rfl) (by kernel_rfl) (fun _ _ _ h => h) (Or.inl ⟨by rfl, ?_⟩) (by assumption) ?_
      rotate_left
      · (intro w hSw; (try dsimp only at hSw); go_simp; try with_reducible rfl)
      try simp only [Act.put, List.setIfInBounds_toArray, List.set_cons_zero, List.set_cons_succ]
      refine take_at (i := 2) (d := some 40) (v := ?_) rfl rfl (by kernel_rfl) (by kernel_rfl) (by kernel_rfl) (fun _ _ _ h => h) (Or.inl ⟨by rfl, ?_⟩) (by assumption) ?_
      rotate_left
      · (intro w hSw; (try dsimp only at hSw); go_simp; try with_reducible rfl)
      try simp only [Act.put, List.setIfInBounds_toArray, List.set_cons_zero, List.set_cons_succ]
      refine take_at (i := 5) (d := some 43) (v := ?_) rfl rfl (by kernel_rfl) (by kernel_rfl) (by kernel_rfl) (fun _ _ _ h => h) (Or.inl ⟨by rfl, ?_⟩) (by assumption) ?_
      rotate_left
      · (intro w hSw; (try dsimp only at hSw); go_simp; try with_reducible rfl)
      try simp only [Act.put, List.setIfInBounds_toArray, List.set_cons_zero, List.set_cons_succ]
      refine take_at (i := 6) (d := some 44) (v := ?_) rfl rfl (by kernel_rfl) (by kernel_rfl) (by kernel_rfl) (fun _ _ _ h => h) (Or.inl ⟨by rfl, ?_⟩) (by assumption) ?_
      rotate_left
      · (intro w hSw; (try dsimp only at hSw); go_simp; try with_reducible rfl)
      try simp only [Act.put, List.setIfInBounds_toArray, List.set_cons_zero, List.set_cons_succ]
      refine wpAnyH_ready (rs := [3, 7]) (by kernel_rfl) (by simp) ?_
      refine AllReadyH.cons (o := { dst := some 41, op := Op.buildSlice 40 1 #[(0, Operand.tmp 40)], type := 40, pos := "ref.go:263", after := #[{ on := 2, ground := Ground.data }], guard := none }) rfl (fun K hK => ?_) (AllReadyH.cons (o := { dst := some 45, op := Op.buildSlice 22 1 #[(0, Operand.tmp 44)], type := 22, pos := "ref.go:263", after := #[{ on := 6, ground := Ground.data }], guard := none }) rfl (fun K hK => ?_) (AllReadyH.nil))
      · go_simp
        obtain ⟨w101, hw101⟩ : ∃ W', W' = W0.alloc (.cells #[.int .i64 m] 3) := ⟨_, rfl⟩
        rw [← hw101]
        have HI1 := Lib.hid (show IRow B (f.map (·.1)) (.slice An L cn) w101 by rw [hw101]; exact HI0.out.alloc _)
        have HT1 := Lib.hid (show TRow B (f.map (·.2)) (.slice At L ct) w101 by rw [hw101]; exact HT0.out.alloc _)
        have HX1 := Lib.hid (show Wr2 M (.slice An L cn) (.slice At L ct) w101 (.slice An L cn) (.slice At L ct) by rw [hw101]; exact HX0.out.trans (Wr2.alloc _ _ _ _))
        have HA1 := Lib.hid (show IsA w101 (fun g => g < B) t.args (.slice A2 t.args.length c2) by rw [hw101]; exact HA0.out.same fun g hg => Below.heap_alloc _ _ _ (by have := HBM.out; have := HX0.out.size; omega))
        have NI1 := Lib.hid (show News M.heap.size (intsC [m]) W0.heap.size w101 by rw [hw101]; exact News.int _ _ _ _ (HX0.out.size))
        clear hw101
        refine hK.out _ _ (HS.out w101 (.slice An L cn) (.slice At L ct) HX1.out) (fun Hq => ?_)
        clear hK K
        try simp only [Act.put, List.setIfInBounds_toArray, List.set_cons_zero, List.set_cons_succ]
        refine wpAnyH_ready (rs := [4, 7]) (by kernel_rfl) (by simp) ?_
        refine AllReadyH.cons (o := { dst := some 42, op := Op.call { callee := Callee.builtin Builtin.append, args := #[Operand.tmp 38, Operand.tmp 41], argTypes := #[40, 40] }, type := 40, pos := "ref.go:263", after := #[{ on := 0, ground := Ground.data }, { on := 3, ground := Ground.data }], guard := none }) rfl (fun K hK => ?_) (AllReadyH.cons (o := { dst := some 45, op := Op.buildSlice 22 1 #[(0, Operand.tmp 44)], type := 22, pos := "ref.go:263", after := #[{ on := 6, ground := Ground.data }], guard := none }) rfl (fun K hK => ?_) (AllReadyH.nil))
        · refine step_append_int rfl (.tmp 38) (.tmp 41) rfl B (.slice An L cn) (f.map (·.1)) rfl HI1.out ⟨W0.heap.size, 0, none⟩ 1 1 [m] rfl rfl NI1.out.2.2 (by rw [HLN.out]; omega) (by have := HBM.out; have := HX1.out.size; omega) ?_
          intro a2 w102 hr hw
          have HI2 := Lib.hid hr
          have HT2 := Lib.hid (HT1.out.keepI HI1.out (by have := HBM.out; have := HX1.out.size; omega) hw)
          have HX2 := Lib.hid (HX1.out.trans (Wr2.ofFst hw _))
          have HA2 := Lib.hid (HA1.out.same fun g hg => hw.1.block g (by have := HBM.out; have := HX1.out.size; omega) fun e => by have := (HI1.out.lt g e.symm).1; omega)
          clear hr hw
          refine hK.out _ _ (HS.out w102 a2 (.slice At L ct) HX2.out) (fun Hq => ?_)
          clear hK K
          try simp only [Act.put, List.setIfInBounds_toArray, List.set_cons_zero, List.set_cons_succ]
          refine wpAnyH_ready (rs := [7]) (by kernel_rfl) (by simp) ?_
          refine AllReadyH.cons (o := { dst := some 45, op := Op.buildSlice 22 1 #[(0, Operand.tmp 44)], type := 22, pos := "ref.go:263", after := #[{ on := 6, ground := Ground.data }], guard := none }) rfl (fun K hK => ?_) (AllReadyH.nil)
          go_simp
          obtain ⟨w103, hw103⟩ : ∃ W', W' = w102.alloc (.cells #[.int .i64 t.kind, .int .i64 t.num, .string t.name, .slice A2 t.args.length c2] 24) := ⟨_, rfl⟩
          rw [← hw103]
          have HI3 := Lib.hid (show IRow B ((f.map (·.1)) ++ [m]) a2 w103 by rw [hw103]; exact HI2.out.alloc _)
          have HT3 := Lib.hid (show TRow B (f.map (·.2)) (.slice At L ct) w103 by rw [hw103]; exact HT2.out.alloc _)
          have HX3 := Lib.hid (show Wr2 M (.slice An L cn) (.slice At L ct) w103 a2 (.slice At L ct) by rw [hw103]; exact HX2.out.trans (Wr2.alloc _ _ _ _))
          have HA3 := Lib.hid (show IsA w103 (fun g => g < B) t.args (.slice A2 t.args.length c2) by rw [hw103]; exact HA2.out.same fun g hg => Below.heap_alloc _ _ _ (by have := HBM.out; have := HX2.out.size; omega))
          have NT3 := Lib.hid (show News M.heap.size (tyCells t (.slice A2 t.args.length c2)) w102.heap.size w103 by rw [hw103]; exact News.ty _ _ _ _ _ (HX2.out.size))
          clear hw103
          refine hK.out _ _ (HS.out w103 a2 (.slice At L ct) HX3.out) (fun Hq => ?_)
          clear hK K
          try simp only [Act.put, List.setIfInBounds_toArray, List.set_cons_zero, List.set_cons_succ]
          refine wpAnyH_ready (rs := [8]) (by kernel_rfl) (by simp) ?_
          refine AllReadyH.cons (o := { dst := some 46, op := Op.call { callee := Callee.builtin Builtin.append, args := #[Operand.tmp 43, Operand.tmp 45], argTypes := #[22, 22] }, type := 22, pos := "ref.go:263", after := #[{ on := 5, ground := Ground.data }, { on := 7, ground := Ground.data }, { on := 4, ground := Ground.chain }], guard := none }) rfl (fun K hK => ?_) (AllReadyH.nil)
          refine step_append_ty rfl (.tmp 43) (.tmp 45) rfl B (.slice At L ct) (f.map (·.2)) (t := t) (st := .slice A2 t.args.length c2) rfl HT3.out HA3.out ⟨w102.heap.size, 0, none⟩ 1 rfl NT3.out.2.2 (by rw [HLT.out]; omega) (by have := HBM.out; have := HX3.out.size; omega) ?_
          intro b4 w104 hr hw
          have HT4 := Lib.hid hr
          have HI4 := Lib.hid (HI3.out.keepT HT3.out hw)
          have HX4 := Lib.hid (HX3.out.trans (Wr2.ofSnd hw _))
          have HA4 := Lib.hid (HA3.out.same fun g hg => hw.1.block g (by have := HBM.out; have := HX3.out.size; omega) fun e => by have := (HT3.out.lt g e.symm).1; omega)
          clear hr hw
          refine hK.out _ _ (HS.out w104 a2 b4 HX4.out) (fun Hq => ?_)
          clear hK K
          try simp only [Act.put, List.setIfInBounds_toArray, List.set_cons_zero, List.set_cons_succ]
          refine take_at (i := 9) (d := some 8) (v := ?_) rfl rfl (by kernel_rfl) (by kernel_rfl) (by kernel_rfl) (fun _ _ _ h => h) (Or.inl ⟨by rfl, ?_⟩) (by assumption) ?_
          rotate_left
          · (intro w hSw; (try dsimp only at hSw); go_simp; try with_reducible rfl)
          try simp only [Act.put, List.setIfInBounds_toArray, List.set_cons_zero, List.set_cons_succ]
          refine take_at (i := 10) (d := some 9) (v := ?_) rfl rfl (by kernel_rfl) (by kernel_rfl) (by kernel_rfl) (fun _ _ _ h => h) (Or.inl ⟨by rfl, ?_⟩) (by assumption) ?_
          rotate_left
          · (intro w hSw; (try dsimp only at hSw); go_simp; try with_reducible rfl)
          try simp only [Act.put, List.setIfInBounds_toArray, List.set_cons_zero, List.set_cons_succ]
          refine take_at (i := 11) (d := some 10) (v := ?_) rfl rfl (by kernel_rfl) (by kernel_rfl) (by kernel_rfl) (fun _ _ _ h => h) (Or.inl ⟨by rfl, ?_⟩) (by assumption) ?_
          rotate_left
          · (intro w hSw; (try dsimp only at hSw); go_simp; try with_reducible rfl)
          try simp only [Act.put, List.setIfInBounds_toArray, List.set_cons_zero, List.set_cons_succ]
          refine wpAnyH_done (by kernel_rfl) ?_ _
          go_wp2
          go_ret3
          rw [HFI.out]
          exact ⟨_, _, rfl, Lib.hid (by rw [List.map_append]; exact HI4.out), Lib.hid (by rw [List.map_append]; exact HT4.out), Lib.hid (HWM2.out.trans HX4.out)⟩
        · go_simp
          obtain ⟨w105, hw105⟩ : ∃ W', W' = w101.alloc (.cells #[.int .i64 t.kind, .int .i64 t.num, .string t.name, .slice A2 t.args.length c2] 24) := ⟨_, rfl⟩
          rw [← hw105]
          have HI5 := Lib.hid (show IRow B (f.map (·.1)) (.slice An L cn) w105 by rw [hw105]; exact HI1.out.alloc _)
          have HT5 := Lib.hid (show TRow B (f.map (·.2)) (.slice At L ct) w105 by rw [hw105]; exact HT1.out.alloc _)
          have HX5 := Lib.hid (show Wr2 M (.slice An L cn) (.slice At L ct) w105 (.slice An L cn) (.slice At L ct) by rw [hw105]; exact HX1.out.trans (Wr2.alloc _ _ _ _))
          have HA5 := Lib.hid (show IsA w105 (fun g => g < B) t.args (.slice A2 t.args.length c2) by rw [hw105]; exact HA1.out.same fun g hg => Below.heap_alloc _ _ _ (by have := HBM.out; have := HX1.out.size; omega))
          have NI5 := Lib.hid (show News M.heap.size (intsC [m]) W0.heap.size w105 by rw [hw105]; exact NI1.out.alloc _)
          have NT5 := Lib.hid (show News M.heap.size (tyCells t (.slice A2 t.args.length c2)) w101.heap.size w105 by rw [hw105]; exact News.ty _ _ _ _ _ (HX1.out.size))
          clear hw105
          refine hK.out _ _ (HS.out w105 (.slice An L cn) (.slice At L ct) HX5.out) (fun Hq => ?_)
          clear hK K
          try simp only [Act.put, List.setIfInBounds_toArray, List.set_cons_zero, List.set_cons_succ]
          refine wpAnyH_ready (rs := [4]) (by kernel_rfl) (by simp) ?_
          refine AllReadyH.cons (o := { dst := some 42, op := Op.call { callee := Callee.builtin Builtin.append, args := #[Operand.tmp 38, Operand.tmp 41], argTypes := #[40, 40] }, type := 40, pos := "ref.go:263", after := #[{ on := 0, ground := Ground.data }, { on := 3, ground := Ground.data }], guard := none }) rfl (fun K hK => ?_) (AllReadyH.nil)
          refine step_append_int rfl (.tmp 38) (.tmp 41) rfl B (.slice An L cn) (f.map (·.1)) rfl HI5.out ⟨W0.heap.size, 0, none⟩ 1 1 [m] rfl rfl NI5.out.2.2 (by rw [HLN.out]; omega) (by have := HBM.out; have := HX5.out.size; omega) ?_
          intro a6 w106 hr hw
          have HI6 := Lib.hid hr
          have HT6 := Lib.hid (HT5.out.keepI HI5.out (by have := HBM.out; have := HX5.out.size; omega) hw)
          have HX6 := Lib.hid (HX5.out.trans (Wr2.ofFst hw _))
          have NT6 := Lib.hid (NT5.out.wr hw (fun e => by have := HVN.out _ e; have := NT5.out.1; omega))
          have HA6 := Lib.hid (HA5.out.same fun g hg => hw.1.block g (by have := HBM.out; have := HX5.out.size; omega) fun e => by have := (HI5.out.lt g e.symm).1; omega)
          clear hr hw
          refine hK.out _ _ (HS.out w106 a6 (.slice At L ct) HX6.out) (fun Hq => ?_)
          clear hK K
          try simp only [Act.put, List.setIfInBounds_toArray, List.set_cons_zero, List.set_cons_succ]
          refine wpAnyH_ready (rs := [8]) (by kernel_rfl) (by simp) ?_
          refine AllReadyH.cons (o := { dst := some 46, op := Op.call { callee := Callee.builtin Builtin.append, args := #[Operand.tmp 43, Operand.tmp 45], argTypes := #[22, 22] }, type := 22, pos := "ref.go:263", after := #[{ on := 5, ground := Ground.data }, { on := 7, ground := Ground.data }, { on := 4, ground := Ground.chain }], guard := none }) rfl (fun K hK => ?_) (AllReadyH.nil)
          refine step_append_ty rfl (.tmp 43) (.tmp 45) rfl B (.slice At L ct) (f.map (·.2)) (t := t) (st := .slice A2 t.args.length c2) rfl HT6.out HA6.out ⟨w101.heap.size, 0, none⟩ 1 rfl NT6.out.2.2 (by rw [HLT.out]; omega) (by have := HBM.out; have := HX6.out.size; omega) ?_
          intro b7 w107 hr hw
          have HT7 := Lib.hid hr
          have HI7 := Lib.hid (HI6.out.keepT HT6.out hw)
          have HX7 := Lib.hid (HX6.out.trans (Wr2.ofSnd hw _))
          have HA7 := Lib.hid (HA6.out.same fun g hg => hw.1.block g (by have := HBM.out; have := HX6.out.size; omega) fun e => by have := (HT6.out.lt g e.symm).1; omega)
          clear hr hw
          refine hK.out _ _ (HS.out w107 a6 b7 HX7.out) (fun Hq => ?_)
          clear hK K
          try simp only [Act.put, List.setIfInBounds_toArray, List.set_cons_zero, List.set_cons_succ]
          refine take_at (i := 9) (d := some 8) (v := ?_) rfl rfl (by kernel_rfl) (by kernel_rfl) (by kernel_rfl) (fun _ _ _ h => h) (Or.inl ⟨by rfl, ?_⟩) (by assumption) ?_
          rotate_left
          · (intro w hSw; (try dsimp only at hSw); go_simp; try with_reducible rfl)
          try simp only [Act.put, List.setIfInBounds_toArray, List.set_cons_zero, List.set_cons_succ]
          refine take_at (i := 10) (d := some 9) (v := ?_) rfl rfl (by kernel_rfl) (by kernel_rfl) (by kernel_rfl) (fun _ _ _ h => h) (Or.inl ⟨by rfl, ?_⟩) (by assumption) ?_
          rotate_left
          · (intro w hSw; (try dsimp only at hSw); go_simp; try with_reducible rfl)
          try simp only [Act.put, List.setIfInBounds_toArray, List.set_cons_zero, List.set_cons_succ]
          refine take_at (i := 11) (d := some 10) (v := ?_) rfl rfl (by kernel_rfl) (by kernel_rfl) (by kernel_rfl) (fun _ _ _ h => h) (Or.inl ⟨by rfl, ?_⟩) (by assumption) ?_
          rotate_left
          · (intro w hSw; (try dsimp only at hSw); go_simp; try with_reducible rfl)
          try simp only [Act.put, List.setIfInBounds_toArray, List.set_cons_zero, List.set_cons_succ]
          refine wpAnyH_done (by kernel_rfl) ?_ _
          go_wp2
          go_ret3
          rw [HFI.out]
          exact ⟨_, _, rfl, Lib.hid (by rw [List.map_append]; exact HI7.out), Lib.hid (by rw [List.map_append]; exact HT7.out), Lib.hid (HWM2.out.trans HX7.out)⟩
      · go_simp
        obtain ⟨w108, hw108⟩ : ∃ W', W' = W0.alloc (.cells #[.int .i64 t.kind, .int .i64 t.num, .string t.name, .slice A2 t.args.length c2] 24) := ⟨_, rfl⟩
        rw [← hw108]
        have HI8 := Lib.hid (show IRow B (f.map (·.1)) (.slice An L cn) w108 by rw [hw108]; exact HI0.out.alloc _)
        have HT8 := Lib.hid (show TRow B (f.map (·.2)) (.slice At L ct) w108 by rw [hw108]; exact HT0.out.alloc _)
        have HX8 := Lib.hid (show Wr2 M (.slice An L cn) (.slice At L ct) w108 (.slice An L cn) (.slice At L ct) by rw [hw108]; exact HX0.out.trans (Wr2.alloc _ _ _ _))
        have HA8 := Lib.hid (show IsA w108 (fun g => g < B) t.args (.slice A2 t.args.length c2) by rw [hw108]; exact HA0.out.same fun g hg => Below.heap_alloc _ _ _ (by have := HBM.out; have := HX0.out.size; omega))
        have NT8 := Lib.hid (show News M.heap.size (tyCells t (.slice A2 t.args.length c2)) W0.heap.size w108 by rw [hw108]; exact News.ty _ _ _ _ _ (HX0.out.size))
        clear hw108
        refine hK.out _ _ (HS.out w108 (.slice An L cn) (.slice At L ct) HX8.out) (fun Hq => ?_)
        clear hK K
        try simp only [Act.put, List.setIfInBounds_toArray, List.set_cons_zero, List.set_cons_succ]
        refine wpAnyH_ready (rs := [3]) (by kernel_rfl) (by simp) ?_
        refine AllReadyH.cons (o := { dst := some 41, op := Op.buildSlice 40 1 #[(0, Operand.tmp 40)], type := 40, pos := "ref.go:263", after := #[{ on := 2, ground := Ground.data }], guard := none }) rfl (fun K hK => ?_) (AllReadyH.nil)
        go_simp
        obtain ⟨w109, hw109⟩ : ∃ W', W' = w108.alloc (.cells #[.int .i64 m] 3) := ⟨_, rfl⟩
        rw [← hw109]
        have HI9 := Lib.hid (show IRow B (f.map (·.1)) (.slice An L cn) w109 by rw [hw109]; exact HI8.out.alloc _)
        have HT9 := Lib.hid (show TRow B (f.map (·.2)) (.slice At L ct) w109 by rw [hw109]; exact HT8.out.alloc _)
        have HX9 := Lib.hid (show Wr2 M (.slice An L cn) (.slice At L ct) w109 (.slice An L cn) (.slice At L ct) by rw [hw109]; exact HX8.out.trans (Wr2.alloc _ _ _ _))
        have HA9 := Lib.hid (show IsA w109 (fun g => g < B) t.args (.slice A2 t.args.length c2) by rw [hw109]; exact HA8.out.same fun g hg => Below.heap_alloc _ _ _ (by have := HBM.out; have := HX8.out.size; omega))
        have NT9 := Lib.hid (show News M.heap.size (tyCells t (.slice A2 t.args.length c2)) W0.heap.size w109 by rw [hw109]; exact NT8.out.alloc _)
        have NI9 := Lib.hid (show News M.heap.size (intsC [m]) w108.heap.size w109 by rw [hw109]; exact News.int _ _ _ _ (HX8.out.size))
        clear hw109
        refine hK.out _ _ (HS.out w109 (.slice An L cn) (.slice At L ct) HX9.out) (fun Hq => ?_)
        clear hK K
        try simp only [Act.put, List.setIfInBounds_toArray, List.set_cons_zero, List.set_cons_succ]
        refine wpAnyH_ready (rs := [4]) (by kernel_rfl) (by simp) ?_
        refine AllReadyH.cons (o := { dst := some 42, op := Op.call { callee := Callee.builtin Builtin.append, args := #[Operand.tmp 38, Operand.tmp 41], argTypes := #[40, 40] }, type := 40, pos := "ref.go:263", after := #[{ on := 0, ground := Ground.data }, { on := 3, ground := Ground.data }], guard := none }) rfl (fun K hK => ?_) (AllReadyH.nil)
        refine step_append_int rfl (.tmp 38) (.tmp 41) rfl B (.slice An L cn) (f.map (·.1)) rfl HI9.out ⟨w108.heap.size, 0, none⟩ 1 1 [m] rfl rfl NI9.out.2.2 (by rw [HLN.out]; omega) (by have := HBM.out; have := HX9.out.size; omega) ?_
        intro a10 w110 hr hw
        have HI10 := Lib.hid hr
        have HT10 := Lib.hid (HT9.out.keepI HI9.out (by have := HBM.out; have := HX9.out.size; omega) hw)
        have HX10 := Lib.hid (HX9.out.trans (Wr2.ofFst hw _))
        have NT10 := Lib.hid (NT9.out.wr hw (fun e => by have := HVN.out _ e; have := NT9.out.1; omega))
        have HA10 := Lib.hid (HA9.out.same fun g hg => hw.1.block g (by have := HBM.out; have := HX9.out.size; omega) fun e => by have := (HI9.out.lt g e.symm).1; omega)
        clear hr hw
        refine hK.out _ _ (HS.out w110 a10 (.slice At L ct) HX10.out) (fun Hq => ?_)
        clear hK K
        try simp only [Act.put, List.setIfInBounds_toArray, List.set_cons_zero, List.set_cons_succ]
        refine wpAnyH_ready (rs := [8]) (by kernel_rfl) (by simp) ?_
        refine AllReadyH.cons (o := { dst := some 46, op := Op.call { callee := Callee.builtin Builtin.append, args := #[Operand.tmp 43, Operand.tmp 45], argTypes := #[22, 22] }, type := 22, pos := "ref.go:263", after := #[{ on := 5, ground := Ground.data }, { on := 7, ground := Ground.data }, { on := 4, ground := Ground.chain }], guard := none }) rfl (fun K hK => ?_) (AllReadyH.nil)
        refine step_append_ty rfl (.tmp 43) (.tmp 45) rfl B (.slice At L ct) (f.map (·.2)) (t := t) (st := .slice A2 t.args.length c2) rfl HT10.out HA10.out ⟨W0.heap.size, 0, none⟩ 1 rfl NT10.out.2.2 (by rw [HLT.out]; omega) (by have := HBM.out; have := HX10.out.size; omega) ?_
        intro b11 w111 hr hw
        have HT11 := Lib.hid hr
        have HI11 := Lib.hid (HI10.out.keepT HT10.out hw)
        have HX11 := Lib.hid (HX10.out.trans (Wr2.ofSnd hw _))
        have HA11 := Lib.hid (HA10.out.same fun g hg => hw.1.block g (by have := HBM.out; have := HX10.out.size; omega) fun e => by have := (HT10.out.lt g e.symm).1; omega)
        clear hr hw
        refine hK.out _ _ (HS.out w111 a10 b11 HX11.out) (fun Hq => ?_)
        clear hK K
        try simp only [Act.put, List.setIfInBounds_toArray, List.set_cons_zero, List.set_cons_succ]
        refine take_at (i := 9) (d := some 8) (v := ?_) rfl rfl (by kernel_rfl) (by kernel_rfl) (by kernel_rfl) (fun _ _ _ h => h) (Or.inl ⟨by rfl, ?_⟩) (by assumption) ?_
        rotate_left
        · (intro w hSw; (try dsimp only at hSw); go_simp; try with_reducible rfl)
        try simp only [Act.put, List.setIfInBounds_toArray, List.set_cons_zero, List.set_cons_succ]
        refine take_at (i := 10) (d := some 9) (v := ?_) rfl rfl (by kernel_rfl) (by kernel_rfl) (by kernel_rfl) (fun _ _ _ h => h) (Or.inl ⟨by rfl, ?_⟩) (by assumption) ?_
        rotate_left
        · (intro w hSw; (try dsimp only at hSw); go_simp; try with_reducible rfl)
        try simp only [Act.put, List.setIfInBounds_toArray, List.set_cons_zero, List.set_cons_succ]
        refine take_at (i := 11) (d := some 10) (v := ?_) rfl rfl (by kernel_rfl) (by kernel_rfl) (by kernel_rfl) (fun _ _ _ h => h) (Or.inl ⟨by rfl, ?_⟩) (by assumption) ?_
        rotate_left
        · (intro w hSw; (try dsimp only at hSw); go_simp; try with_reducible rfl)
        try simp only [Act.put, List.setIfInBounds_toArray, List.set_cons_zero, List.set_cons_succ]
        refine wpAnyH_done (by kernel_rfl) ?_ _
        go_wp2
        go_ret3
        rw [HFI.out]
        exact ⟨_, _, rfl, Lib.hid (by rw [List.map_append]; exact HI11.out), Lib.hid (by rw [List.map_append]; exact HT11.out), Lib.hid (HWM2.out.trans HX11.out)⟩
end Go.Proofs.YtmpmibebkflaiaaDoor
