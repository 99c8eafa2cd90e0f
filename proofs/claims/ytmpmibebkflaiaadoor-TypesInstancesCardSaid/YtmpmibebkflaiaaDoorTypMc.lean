/- The contract of the reference's match; its Instance. -/
import Derived.Test.YtmpmibebkflaiaaDoorTypMb
namespace Go.Proofs.YtmpmibebkflaiaaDoor
open Go.RowKit Go.Lib Go.Shelf Go.Sort Tp
set_option maxRecDepth 100000
set_option linter.unusedVariables false
set_option linter.unusedSectionVars false

theorem fitss_stop {f f' : List (Int × Ty)} {ls ms : List Ty} : ∀ {f0 : List (Int × Ty)}, f0 = f → fitss f0 ls ms = fitss f ls ms := fun h => by rw [h]
/-- where the loop over two rows of parts stands: ok, and what was found. -/
def FitAt (f : List (Int × Ty)) (ls ms : List Ty) (j : Nat) (ok : Bool) (f' : List (Int × Ty)) : Prop := if ok then fitss f' (ls.drop j) (ms.drop j) = fitss f ls ms else fitss f ls ms = (false, f')
theorem FitAt.next {f f' : List (Int × Ty)} {ls ms : List Ty} {j : Nat} {x y : Ty} (h : FitAt f ls ms j true f') (hx : ls[j]? = some x) (hy : ms[j]? = some y) : FitAt f ls ms (j + 1) (fits f' x y).1 (fits f' x y).2 := by
  have h : fitss f' (ls.drop j) (ms.drop j) = fitss f ls ms := h
  rw [drop_cons hx, drop_cons hy, fitss_cons] at h
  unfold FitAt
  cases hb : (fits f' x y).1
  · rw [hb] at h
    exact h.symm
  · rw [hb] at h
    exact h
theorem FitAt.done {f f' : List (Int × Ty)} {ls ms : List Ty} {j : Nat} {ok : Bool} (h : FitAt f ls ms j ok f') (hj : ls.length ≤ j) : fitss f ls ms = (ok, f') := by
  unfold FitAt at h
  cases ok
  · exact h
  · rw [List.drop_eq_nil_of_le hj, fitss_nil] at h
    exact h.symm
/-- the elements of a slice of types whose blocks lie below B. -/
def ElsB (w : World) (B g o : Nat) (ls : List Ty) : Prop := ∀ (i : Nat) (t : Ty), ls[i]? = some t → ∃ s, w.cell? ⟨g, o + i * 4, none⟩ = some (.int .i64 t.kind) ∧ w.cell? ⟨g, o + i * 4 + 1, none⟩ = some (.int .i64 t.num) ∧ w.cell? ⟨g, o + i * 4 + 2, none⟩ = some (.string t.name) ∧ w.cell? ⟨g, o + i * 4 + 3, none⟩ = some s ∧ IsA w (fun g => g < B) t.args s
def MatchSpec (n : Nat) : Prop := ∀ (g t : Ty) (f : List (Int × Ty)) (vn vt s1 s2 : Value) (B : Nat) (w : World), g.wt ≤ n → fit g → fit t → (∀ x ∈ f, fit x.2) → f.length + g.wt ≤ 1000000 - 1 → IRow B (f.map (·.1)) vn w → TRow B (f.map (·.2)) vt w → B ≤ w.heap.size → IsA w (fun g => g < B) g.args s1 → IsA w (fun g => g < B) t.args s2 →
    Calls Tryd.prog 24 #[vn, vt, tv g s1, tv t s2] w (MatchPost B (fits f g t).2 (fits f g t).1 vn vt w)
set_option maxHeartbeats 8000000 in
theorem match_any (n : Nat) : MatchSpec n := by
  induction n with
  | zero => intro g t f vn vt s1 s2 B w hn; have := Ty.wt_eq g; omega
  | succ n ih =>
    intro g t f vn vt s1 s2 B w hwt hfg hft hfx hlen hn ht hB hA1 hA2
    by_cases hk : g.kind = 1
    · exact match_var g t f vn vt s1 s2 B w hk hfg hft hfx (by omega) hn ht hB hA1 hA2
    obtain ⟨An, cn, rfl⟩ := hn.form
    obtain ⟨At, ct, rfl⟩ := ht.form
    obtain ⟨A1, c1, rfl, hc1, ho1⟩ := hA1.open
    obtain ⟨A2, c2, rfl, hc2, ho2⟩ := hA2.open
    obtain ⟨M, hM, hbx, hby, hMs, hMb⟩ := two_boxes w g t (.slice A1 g.args.length c1) (.slice A2 t.args.length c2) 24
    have HYES := Lib.hid (fun h : g.kind = t.kind ∧ g.name = t.name ∧ g.args.length = t.args.length => show fits f g t = fitss f g.args t.args by rw [fits_eq, if_neg hk, if_pos h])
    have HNO := Lib.hid (fun h : ¬ (g.kind = t.kind ∧ g.name = t.name ∧ g.args.length = t.args.length) => show fits f g t = (false, f) by rw [fits_eq, if_neg hk, if_neg h])
    have HFX := Lib.hid hfx
    have HFT := Lib.hid hft
    have HFG := Lib.hid hfg
    have HWT := Lib.hid hwt
    have HI := Lib.hid ih
    have HLN := Lib.hid hlen
    have HO1 := Lib.hid (show 0 < g.args.length → ∃ q o, A1 = some ⟨q, o, none⟩ ∧ q < B ∧ ElsB w B q o g.args from ho1)
    have HO2 := Lib.hid (show 0 < t.args.length → ∃ q o, A2 = some ⟨q, o, none⟩ ∧ q < B ∧ ElsB w B q o t.args from ho2)
    clear ho1 ho2
    have hsz1 := hfg.self.2
    have hsz2 := hft.self.2
    have hvn := fun g' (e : (Value.slice An (f.map (·.1)).length cn).ownBlock = some g') => (hn.lt g' e).2
    have hvt := fun g' (e : (Value.slice At (f.map (·.2)).length ct).ownBlock = some g') => (ht.lt g' e).2
    have HOW := Lib.hid (And.intro hvn hvt)
    have HNM := Lib.hid (hn.keep hMb)
    have HTM := Lib.hid (show TRow B (f.map (·.2)) _ M from Tys.below ht hMb)
    have HMs := Lib.hid hMs
    have HMb := Lib.hid hMb
    have HM := Lib.hid hM
    have HWM2 := Lib.hid (Wr2.still hMb (.slice An (f.map (·.1)).length cn) (.slice At (f.map (·.2)).length ct))
    have HBX := Lib.hid hbx
    have HBY := Lib.hid hby
    have hkb : (g.kind == 1) = false := by simp [hk]
    obtain ⟨k1, m1, z1, as1⟩ := g
    obtain ⟨k2, m2, z2, as2⟩ := t
    simp only [Ty.kind, Ty.num, Ty.name, Ty.args] at *
    simp only [tv, Ty.kind, Ty.num, Ty.name]
    obtain ⟨Ln, hLn⟩ : ∃ L, L = (f.map (·.1)).length := ⟨_, rfl⟩
    obtain ⟨Lt, hLt⟩ : ∃ L, L = (f.map (·.2)).length := ⟨_, rfl⟩
    rw [← hLn] at HNM HWM2 HOW ⊢
    rw [← hLt] at HTM HWM2 HOW ⊢
    obtain ⟨L1, hL1⟩ : ∃ L, L = as1.length := ⟨_, rfl⟩
    obtain ⟨L2, hL2⟩ : ∃ L, L = as2.length := ⟨_, rfl⟩
    rw [← hL1] at hc1 hsz1 HO1 HM HYES HNO ⊢
    rw [← hL2] at hc2 hsz2 HO2 HM HYES HNO ⊢
    have HL1 := Lib.hid hL1
    have HL2 := Lib.hid hL2
    have HBX2 := Lib.hid (show ∀ W : World, W.heap[w.heap.size]? = M.heap[w.heap.size]? → W.cell? ⟨w.heap.size, 0, none⟩ = some (.int .i64 k1) ∧ W.cell? ⟨w.heap.size, 1, none⟩ = some (.int .i64 m1) ∧ W.cell? ⟨w.heap.size, 2, none⟩ = some (.string z1) ∧ W.cell? ⟨w.heap.size, 3, none⟩ = some (.slice A1 L1 c1) from fun W h => by
      have hc : ∀ j, W.cell? ⟨w.heap.size, j, none⟩ = M.cell? ⟨w.heap.size, j, none⟩ := fun j => World.cell?_of_block (w := M) (w' := W) (a := ⟨w.heap.size, j, none⟩) h
      rw [hc, hc, hc, hc, hL1]
      exact HBX.out)
    have HBY2 := Lib.hid (show ∀ W : World, W.heap[w.heap.size + 1]? = M.heap[w.heap.size + 1]? → W.cell? ⟨w.heap.size + 1, 0, none⟩ = some (.int .i64 k2) ∧ W.cell? ⟨w.heap.size + 1, 1, none⟩ = some (.int .i64 m2) ∧ W.cell? ⟨w.heap.size + 1, 2, none⟩ = some (.string z2) ∧ W.cell? ⟨w.heap.size + 1, 3, none⟩ = some (.slice A2 L2 c2) from fun W h => by
      have hc : ∀ j, W.cell? ⟨w.heap.size + 1, j, none⟩ = M.cell? ⟨w.heap.size + 1, j, none⟩ := fun j => World.cell?_of_block (w := M) (w' := W) (a := ⟨w.heap.size + 1, j, none⟩) h
      rw [hc, hc, hc, hc, hL2]
      exact HBY.out)
    clear hL1 hL2 hLn hLt hn ht hA1 hA2 hM hbx hby hMs hMb hfg hft hfx ih hwt hlen hvn hvt hk HBX HBY
    by_cases hkk : k1 = k2
    case neg =>
      have HE := Lib.hid (HNO.out fun h => hkk h.1)
      have hb : (k1 != k2) = true := by simp [hkk]
      clear hkk
      go_enter Tryd.func24, Tryd.ntmps24
      go_wp2
      go_ret3
      rw [HE.out, ← HM.out]
      exact ⟨_, _, rfl, Lib.hid HNM.out, Lib.hid HTM.out, Lib.hid HWM2.out⟩
    subst hkk
    by_cases hzz : z1 = z2
    case neg =>
      have HE := Lib.hid (HNO.out fun h => hzz h.2.1)
      have hzb : (z1.toList == z2.toList) = false := by rw [name_eq]; simp [hzz]
      clear hzz
      go_enter Tryd.func24, Tryd.ntmps24
      go_wp2
      go_ret3
      rw [HE.out, ← HM.out]
      exact ⟨_, _, rfl, Lib.hid HNM.out, Lib.hid HTM.out, Lib.hid HWM2.out⟩
    subst hzz
    by_cases hll : L1 = L2
    case neg =>
      have HE := Lib.hid (HNO.out fun h => hll h.2.2)
      have hlb : ((L1 : Int) != (L2 : Int)) = true := by simp; omega
      clear hll
      go_enter Tryd.func24, Tryd.ntmps24
      go_wp2
      go_ret3
      rw [HE.out, ← HM.out]
      exact ⟨_, _, rfl, Lib.hid HNM.out, Lib.hid HTM.out, Lib.hid HWM2.out⟩
    subst hll
    have HE := Lib.hid (HYES.out ⟨rfl, rfl, rfl⟩)
    go_enter Tryd.func24, Tryd.ntmps24
    go_wp2
    rw [← HM.out]
    have hBM : B ≤ M.heap.size := by have := HMb.out.size; omega
    have HBM := Lib.hid hBM
    clear hBM
    go_loopw [0, 1, 12, 13] (fun a b okv i wr => ∃ (j : Nat) (ok : Bool) (f' : List (Int × Ty)) (An' At' : Option Addr) (n1 n2 cn' ct' : Nat), j ≤ L1 ∧ i = .int .i64 j ∧ okv = .bool ok ∧ a = .slice An' n1 cn' ∧ b = .slice At' n2 ct' ∧ RowKit.Hid (FitAt f as1 as2 j ok f' ∧ f'.length ≤ f.length + Ty.wts (as1.take j) ∧ ∀ x ∈ f', fit x.2) ∧ RowKit.Hid (IRow B (f'.map (·.1)) (.slice An' n1 cn') wr) ∧ RowKit.Hid (TRow B (f'.map (·.2)) (.slice At' n2 ct') wr) ∧ RowKit.Hid (Wr2 M (.slice An Ln cn) (.slice At Lt ct) wr (.slice An' n1 cn') (.slice At' n2 ct'))) (fun _ _ _ i _ => L1 - (RowKit.intOf i).toNat)
    case atStart => exact ⟨0, true, f, An, At, Ln, Lt, cn, ct, by omega, rfl, rfl, rfl, rfl, Lib.hid ⟨rfl, by omega, HFX.out⟩, HNM, HTM, Lib.hid (Wr2.refl _ _ _)⟩
    case round =>
      obtain ⟨j, ok, f', An', At', n1, n2, cn', ct', hj, rfl, rfl, rfl, rfl, HF, HNI, HTI, HWI⟩ := hrel
      have hs2 := HWI.out.size
      have hms := HMs.out
      have hb0 := HWI.out.block w.heap.size (by omega) (fun e => by have := HOW.out.1 _ e; omega) (fun e => by have := HOW.out.2 _ e; omega)
      have hb1 := HWI.out.block (w.heap.size + 1) (by omega) (fun e => by have := HOW.out.1 _ e; omega) (fun e => by have := HOW.out.2 _ e; omega)
      obtain ⟨x0, x1, x2, x3⟩ := HBX2.out wr hb0
      obtain ⟨y0, y1, y2, y3⟩ := HBY2.out wr hb1
      by_cases hlt : j < L1
      · cases ok
        · have HD := Lib.hid (show fitss f as1 as2 = (false, f') from HF.out.1)
          clear hs2 hms hb0 hb1
          go_wp2
          go_ret3
          rw [HE.out, HD.out]
          exact ⟨_, _, rfl, HNI, HTI, Lib.hid (HWM2.out.trans HWI.out)⟩
        · obtain ⟨g1, o1, rfl, hg1, hr1⟩ := HO1.out (by omega)
          obtain ⟨g2, o2, rfl, hg2, hr2⟩ := HO2.out (by omega)
          obtain ⟨x, hx⟩ : ∃ x, as1[j]? = some x := ⟨_, List.getElem?_eq_getElem (by have := HL1.out; omega)⟩
          obtain ⟨y, hy⟩ : ∃ y, as2[j]? = some y := ⟨_, List.getElem?_eq_getElem (by have := HL2.out; omega)⟩
          obtain ⟨sx, c0, c1', c2', c3, hax⟩ := hr1 j x hx
          obtain ⟨sy, d0, d1, d2, d3, hay⟩ := hr2 j y hy
          have hxm := List.mem_of_getElem? hx
          have hym := List.mem_of_getElem? hy
          have hbw : ∀ g', g' < B → wr.heap[g']? = w.heap[g']? := fun g' hg' =>
            (HWI.out.block g' (by have := HBM.out; omega) (fun e => by have := (HNM.out.lt _ e).1; omega) (fun e => by have := (TRow.lt HTM.out _ e).1; omega)).trans (HMb.out.block g' (by omega))
          have hcl : ∀ g' q, g' < B → wr.cell? ⟨g', q, none⟩ = w.cell? ⟨g', q, none⟩ := fun g' q hg' => World.cell?_of_block (w := w) (w' := wr) (a := ⟨g', q, none⟩) (hbw g' hg')
          rw [← hcl _ _ hg1] at c0 c1' c2' c3
          rw [← hcl _ _ hg2] at d0 d1 d2 d3
          obtain ⟨Ax, cx, rfl, -⟩ := hax.form
          obtain ⟨Ay, cy, rfl, -⟩ := hay.form
          have hax2 := hax.same (w' := wr) hbw
          have hay2 := hay.same (w' := wr) hbw
          have hft2 := wts_take3 as1 j x hx
          have hle2 := wts_take_le as1 (j + 1)
          have hwt2 := Ty.wt_eq (Ty.mk k1 m1 z1 as1)
          simp only [Ty.args] at hwt2
          have HC := Lib.hid (HI.out x y f' (.slice An' n1 cn') (.slice At' n2 ct') _ _ B wr.drew (by have := HWT.out; omega) (HFG.out.arg hxm) (HFT.out.arg hym) HF.out.2.2 (by have := HLN.out; have := HF.out.2.1; omega) (show IRow B _ _ wr.drew from HNI.out) (show TRow B _ _ wr.drew from Tys.below HTI.out (Below.refl _ _).drew) (by show B ≤ wr.heap.size; have := HBM.out; omega) (hax2.same fun _ _ => rfl) (hay2.same fun _ _ => rfl))
          have HN := Lib.hid (show FitAt f as1 as2 (j + 1) (fits f' x y).1 (fits f' x y).2 ∧ (fits f' x y).2.length ≤ f.length + Ty.wts (as1.take (j + 1)) ∧ ∀ q ∈ (fits f' x y).2, fit q.2 from
            ⟨HF.out.1.next hx hy, by have h1 := fits_len x y f'; have h2 := HF.out.2.1; omega, fits_fit x y f' (HFT.out.arg hym) HF.out.2.2⟩)
          obtain ⟨ok2, hok2⟩ : ∃ b, b = (fits f' x y).1 := ⟨_, rfl⟩
          obtain ⟨f2, hf2⟩ : ∃ b, b = (fits f' x y).2 := ⟨_, rfl⟩
          rw [← hok2, ← hf2] at HC HN
          have HZ := Lib.hid (show ∀ (W : World) (a b : Value), RowKit.Hid (Wr2 wr (.slice An' n1 cn') (.slice At' n2 ct') W a b) → W.cell? ⟨w.heap.size, 3, none⟩ = some (.slice (some ⟨g1, o1, none⟩) L1 c1) ∧ W.cell? ⟨w.heap.size + 1, 3, none⟩ = some (.slice (some ⟨g2, o2, none⟩) L1 c2) ∧ W.cell? ⟨g1, o1 + j * 4, none⟩ = some (.int .i64 x.kind) ∧ W.cell? ⟨g1, o1 + j * 4 + 1, none⟩ = some (.int .i64 x.num) ∧ W.cell? ⟨g1, o1 + j * 4 + 2, none⟩ = some (.string x.name) ∧ W.cell? ⟨g1, o1 + j * 4 + 3, none⟩ = some (.slice Ax x.args.length cx) ∧ W.cell? ⟨g2, o2 + j * 4, none⟩ = some (.int .i64 y.kind) ∧ W.cell? ⟨g2, o2 + j * 4 + 1, none⟩ = some (.int .i64 y.num) ∧ W.cell? ⟨g2, o2 + j * 4 + 2, none⟩ = some (.string y.name) ∧ W.cell? ⟨g2, o2 + j * 4 + 3, none⟩ = some (.slice Ay y.args.length cy) from fun W a b h => by
            have hn1 : ∀ q, q < M.heap.size → (∀ e : (Value.slice An Ln cn).ownBlock = some q, False) → (Value.slice An' n1 cn').ownBlock = some q → False := fun q hq h1 e => by
              rcases HWI.out.fst with h2 | h2
              · exact h1 (h2 ▸ e)
              · have := h2 q e; omega
            have hn2 : ∀ q, q < M.heap.size → (∀ e : (Value.slice At Lt ct).ownBlock = some q, False) → (Value.slice At' n2 ct').ownBlock = some q → False := fun q hq h1 e => by
              rcases HWI.out.snd with h2 | h2
              · exact h1 (h2 ▸ e)
              · have := h2 q e; omega
            have k0 := h.out.block w.heap.size (by omega) (fun e => hn1 _ (by omega) (fun e => by have := HOW.out.1 _ e; omega) e) (fun e => hn2 _ (by omega) (fun e => by have := HOW.out.2 _ e; omega) e)
            have k1 := h.out.block (w.heap.size + 1) (by omega) (fun e => hn1 _ (by omega) (fun e => by have := HOW.out.1 _ e; omega) e) (fun e => hn2 _ (by omega) (fun e => by have := HOW.out.2 _ e; omega) e)
            have kb : ∀ q, q < B → W.heap[q]? = wr.heap[q]? := fun q hq => h.out.block q (by have := HBM.out; omega) (fun e => by have := (HNI.out.lt _ e).1; omega) (fun e => by have := (TRow.lt HTI.out _ e).1; omega)
            have kc : ∀ q p, q < B → W.cell? ⟨q, p, none⟩ = wr.cell? ⟨q, p, none⟩ := fun q p hq => World.cell?_of_block (w := wr) (w' := W) (a := ⟨q, p, none⟩) (kb q hq)
            refine ⟨(World.cell?_of_block (w := wr) (w' := W) (a := ⟨w.heap.size, 3, none⟩) k0).trans x3, (World.cell?_of_block (w := wr) (w' := W) (a := ⟨w.heap.size + 1, 3, none⟩) k1).trans y3, (kc _ _ hg1).trans c0, (kc _ _ hg1).trans c1', (kc _ _ hg1).trans c2', (kc _ _ hg1).trans c3, (kc _ _ hg2).trans d0, (kc _ _ hg2).trans d1, (kc _ _ hg2).trans d2, (kc _ _ hg2).trans d3⟩)
          have hD0 : RowKit.Hid (Wr2 wr (.slice An' n1 cn') (.slice At' n2 ct') wr.drew (.slice An' n1 cn') (.slice At' n2 ct')) := Lib.hid (Wr2.ofFst (Wr.drew wr _) _)
          unfold MatchPost tv at HC
          clear hs2 hms hb0 hb1 hx hy hax hay hxm hym hax2 hay2 hbw hcl hok2 hf2 hr1 hr2 hft2 hle2 hwt2
          go_wp2
          go_region_held3 (fun W => W.cell? ⟨w.heap.size, 3, none⟩ = some (.slice (some ⟨g1, o1, none⟩) L1 c1) ∧ W.cell? ⟨w.heap.size + 1, 3, none⟩ = some (.slice (some ⟨g2, o2, none⟩) L1 c2) ∧ W.cell? ⟨g1, o1 + j * 4, none⟩ = some (.int .i64 x.kind) ∧ W.cell? ⟨g1, o1 + j * 4 + 1, none⟩ = some (.int .i64 x.num) ∧ W.cell? ⟨g1, o1 + j * 4 + 2, none⟩ = some (.string x.name) ∧ W.cell? ⟨g1, o1 + j * 4 + 3, none⟩ = some (.slice Ax x.args.length cx) ∧ W.cell? ⟨g2, o2 + j * 4, none⟩ = some (.int .i64 y.kind) ∧ W.cell? ⟨g2, o2 + j * 4 + 1, none⟩ = some (.int .i64 y.num) ∧ W.cell? ⟨g2, o2 + j * 4 + 2, none⟩ = some (.string y.name) ∧ W.cell? ⟨g2, o2 + j * 4 + 3, none⟩ = some (.slice Ay y.args.length cy)) (first | exact HZ.out _ _ _ hD0 | exact HZ.out _ _ _ ‹RowKit.Hid (Wr2 wr (.slice An' n1 cn') (.slice At' n2 ct') _ _ _)›) (first | (go_at_call 24; with_reducible (refine HC.out.mono ?_); rintro e wn ⟨a2, b2, rfl, HI2, HT2, hw2⟩; have hD2 := Lib.hid (hD0.out.trans hw2.out); clear hw2))
          all_goals
            obtain ⟨Aq, cq, rfl⟩ := HI2.out.form
            obtain ⟨Ar, cr, rfl⟩ := TRow.form HT2.out
            go_wp2
            go_roundw
            case rel => exact ⟨j + 1, ok2, f2, Aq, Ar, _, _, cq, cr, by omega, by go_num, rfl, rfl, rfl, HN, HI2, HT2, Lib.hid (HWI.out.trans hD2.out)⟩
            case measure => simp [RowKit.intOf]; omega
      · have HD := Lib.hid (HF.out.1.done (by have := HL1.out; omega))
        clear hs2 hms hb0 hb1
        have hjl : j = L1 := by omega
        cases ok
        all_goals
          go_wp2
          go_ret3
          rw [HE.out, HD.out]
          exact ⟨_, _, rfl, HNI, HTI, Lib.hid (HWM2.out.trans HWI.out)⟩
end Go.Proofs.YtmpmibebkflaiaaDoor
