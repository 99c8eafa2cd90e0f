/- The contract of text's Between; the walk of TextMade. -/
import Derived.Test.YtdeihlbnlogjcaaDoorTexS
namespace Go.Proofs.YtdeihlbnlogjcaaDoor
open Go.RowKit Go.Lib Go.Shelf
set_option maxRecDepth 100000
set_option linter.unusedVariables false

theorem results_cell_tmp {P : Program} {fn : Func} {p t : Tmp} {ty : TypeId} (h : fn.results = #[.cell p ty, .tmp t]) (tmps : Array Value) (w : World) (g : Nat) (ct : TypeId) (cs : Array Value) (fr : Nat × Nat) (d : TypeDesc)
    (hp : tmps.getD p undef = .pointer (some ⟨g, 0, none⟩)) (hg : w.heap[g]? = some (.cells cs ct fr))
    (hu : P.underlying ty = some d) (hd : (match d with | .struct _ | .array _ _ => true | _ => false) = true) (hi : (P.info? ty).map (·.size) = some cs.size) (v : Value) (hv : tmps.getD t undef = v) :
    (results fn tmps).run P w = .ok (.tuple #[.agg cs, v]) w := by
  subst hv
  have hp' : tmps[p]?.getD undef = .pointer (some ⟨g, 0, none⟩) := by simpa using hp
  simp [results, h, hp', asAddr, run_loadVar_row w g ct ty cs fr d hg hu hd hi]
theorem infoEd5 : (Tryd.prog.info? 60).map (·.size) = some 5 := by kernel_rfl
theorem blk_set {W : World} {g k : Nat} {cs : Array Value} {t : TypeId} {fr : Nat × Nat} (h : W.heap[g]? = some (.cells cs t fr)) (v : Value) : (W.setCell ⟨g, k, none⟩ v).heap[g]? = some (.cells (cs.setIfInBounds k v) t fr) := by
  simp only [World.setCell, Array.getElem?_modify, if_true, h]
  rfl
/-- an edit in a block. -/
structure FiveB (W : World) (g : Nat) (v0 v1 v2 v3 v4 : Value) : Prop where
  blk : W.heap[g]? = some (.cells #[v0, v1, v2, v3, v4] 60 (0, 0))
theorem FiveB.cells {W : World} {g : Nat} {v0 v1 v2 v3 v4 : Value} (h : FiveB W g v0 v1 v2 v3 v4) :
    (W.cell? ⟨g, 0, none⟩ = some v0 ∧ W.cell? ⟨g, 1, none⟩ = some v1 ∧ W.cell? ⟨g, 2, none⟩ = some v2 ∧ W.cell? ⟨g, 3, none⟩ = some v3 ∧ W.cell? ⟨g, 4, none⟩ = some v4) ∧
    W.frozen? ⟨g, 0, none⟩ = false ∧ W.frozen? ⟨g, 1, none⟩ = false ∧ W.frozen? ⟨g, 2, none⟩ = false ∧ W.frozen? ⟨g, 3, none⟩ = false ∧ W.frozen? ⟨g, 4, none⟩ = false := by
  have h := h.blk
  refine ⟨⟨?_, ?_, ?_, ?_, ?_⟩, ?_, ?_, ?_, ?_, ?_⟩ <;> simp [World.cell?, World.frozen?, h]
theorem FiveB.below {W W' : World} {g : Nat} {v0 v1 v2 v3 v4 : Value} (h : FiveB W g v0 v1 v2 v3 v4) {B : Nat} (hb : Below B W W') (hg : g < B) : FiveB W' g v0 v1 v2 v3 v4 := ⟨(hb.block g hg).trans h.blk⟩
theorem FiveB.lt {W : World} {g : Nat} {v0 v1 v2 v3 v4 : Value} (h : FiveB W g v0 v1 v2 v3 v4) : g < W.heap.size := (Array.getElem?_eq_some_iff.1 h.blk).1
theorem pl_at {L : List UInt8} {n : Nat} (hv : validD L = true) (hn : n ≤ L.length) (v : validD (L.take n) = true) : plL L n = (posB (L.take n)).1 ∧ plC L n = (posB (L.take n)).2 ∧ plK L n = 0 := by
  have hi : isPl L n = true := by
    unfold isPl
    rw [Int.toNat_natCast, v, decide_eq_true (by omega), decide_eq_true (by omega)]
    rfl
  unfold plL plC plK
  rw [hv, hi, Int.toNat_natCast]
  exact ⟨rfl, rfl, rfl⟩
theorem blk_other {W : World} {a : Addr} {u : Value} {g : Nat} {o : Option Obj} (h : W.heap[g]? = o) (hne : g ≠ a.block) : (W.setCell a u).heap[g]? = o := by
  simp only [World.setCell, Array.getElem?_modify]
  rw [if_neg (fun e => hne e.symm)]
  exact h
theorem five_put {W : World} {g g2 : Nat} {T : TypeId} {v0 v1 v2 v3 v4 : Value} (h : W.heap[g]? = some (.cells #[v0, v1, v2, v3, v4] T (0, 0))) (hne : g ≠ g2) (u v a b c d x : Value) :
    (((((((W.setCell ⟨g2, 2, none⟩ u).setCell ⟨g2, 3, none⟩ v).setCell ⟨g, 0, none⟩ a).setCell ⟨g, 1, none⟩ b).setCell ⟨g, 2, none⟩ c).setCell ⟨g, 3, none⟩ d).setCell ⟨g, 4, none⟩ x).heap[g]? = some (.cells #[a, b, c, d, x] T (0, 0)) :=
  blk_set (blk_set (blk_set (blk_set (blk_set (blk_other (a := ⟨g2, 3, none⟩) (blk_other (a := ⟨g2, 2, none⟩) h hne) hne) a) b) c) d) x
set_option maxHeartbeats 1500000 in
theorem between_any (s t : ByteArray) (w : World) (hs : s.size ≤ 1099511627) (ht : t.size ≤ 1099511627) (hT : Tabs w) (vs_ : validD s.data.toList = true) (vt : validD t.data.toList = true) :
    Calls Tryd.prog 50 #[.string s, .string t] w fun e w' => e = .returned (.tuple #[etV (btX s t), .int .i64 0]) ∧ Below w.heap.size w w' := by
  have H := bt_spec s t vs_ vt
  obtain ⟨f, hf⟩ : ∃ f, f = btF s t := ⟨_, rfl⟩
  obtain ⟨e, he⟩ : ∃ e, e = btE s t := ⟨_, rfl⟩
  have hfe1 := H.f1
  have hfe2 := H.f2
  rw [← hf, ← he] at hfe1 hfe2
  have hfs : f ≤ s.size := by omega
  have hft : f ≤ t.size := by omega
  have hfs2 : ¬ (s.size : Int) < f := by omega
  have hft2 : ¬ (t.size : Int) < f := by omega
  have hfs3 : ¬ s.size < f := by omega
  have hft3 : ¬ t.size < f := by omega
  have HFE := Lib.hid (And.intro hf he)
  have HH := Lib.hid H
  have HV := Lib.hid (And.intro vs_ vt)
  have HFR := Lib.hid (fun W => front_any s t W hs ht vs_ vt)
  have hff : frontB s.data.toList t.data.toList = f := by rw [hf]; rfl
  have hee : endB (s.data.toList.drop f) (t.data.toList.drop f) = e := by rw [he, hf]; rfl
  rw [hff] at HFR
  have HEN := Lib.hid (fun W => end_any (s.extract f s.size) (t.extract f t.size) W (by rw [ByteArray.size_extract]; omega) (by rw [ByteArray.size_extract]; omega))
  rw [drop_str s f (by omega), drop_str t f (by omega), hee] at HEN
  obtain ⟨W0, hW0⟩ : ∃ W0, W0 = w.alloc (.cells #[.int .i64 0, .int .i64 0, .int .i64 0, .int .i64 0, .string ⟨#[]⟩] 60) := ⟨_, rfl⟩
  have hA0 : Below w.heap.size w W0 := by rw [hW0]; exact (Below.refl _ w).alloc (Nat.le_refl _) _
  have HT0 := Lib.hid (Utf8Tabs_below hT hA0)
  have HA0 := Lib.hid hA0
  have HI1 := Lib.hid (fun W (h : Below W0.heap.size W0 W) => isText_any s W (by omega) (Utf8Tabs_below HT0.out h))
  have HI2 := Lib.hid (fun W (h : Below W0.heap.size W0 W) => isText_any t W (by omega) (Utf8Tabs_below HT0.out h))
  rw [vs_] at HI1
  rw [vt] at HI2
  have HW0 := Lib.hid hW0
  clear hf he H hff hee hA0 hW0 vs_ vt
  go_enter Tryd.func50, Tryd.ntmps50
  go_wp2_with fail
  rw [← HW0.out]
  refine (HI1.out W0 (Below.refl _ _)).mono ?_
  rintro e1 w1 ⟨rfl, hb1⟩
  have HB1 := Lib.hid hb1
  clear hb1
  go_wp2_with fail
  refine (HI2.out w1 HB1.out).mono ?_
  rintro e2 w2 ⟨rfl, hb2⟩
  have HB2 := Lib.hid (HB1.out.trans (hb2.mono HB1.out.size))
  clear hb2
  go_wp2_with fail
  refine (HFR.out w2).mono ?_
  rintro e3 w3 ⟨rfl, hd3⟩
  have HB3 := Lib.hid (show Below W0.heap.size W0 w3 by
    obtain ⟨q3, rfl⟩ := hd3
    exact below_drewN HB2.out q3)
  have HEN3 := Lib.hid (fun q : Nat => Calls.quiet_of (HEN.out (w3.drewN q)))
  clear hd3
  go_wp2
  go_quiet ((go_at_call 69; exact HEN3.out _))
  have hb4 := below_drewN HB3.out nq
  generalize w3.drewN nq = w4 at hb4 ⊢
  have HB4 := Lib.hid hb4
  clear hb4
  obtain ⟨X, hX⟩ : ∃ X, X = t.extract f (t.size - e) := ⟨_, rfl⟩
  have HX := Lib.hid hX
  obtain ⟨W4, hW4⟩ : ∃ W4, W4 = w4.alloc (.cells #[.int .i64 0, .int .i64 0, .int .i64 0, .int .i64 0, .string X] 60) := ⟨_, rfl⟩
  have h5 : FiveB W4 w4.heap.size (.int .i64 0) (.int .i64 0) (.int .i64 0) (.int .i64 0) (.string X) := by
    rw [hW4]
    exact ⟨heap_alloc_new w4 _⟩
  have HBW := Lib.hid (show Below W0.heap.size W0 W4 by rw [hW4]; exact HB4.out.alloc HB4.out.size _)
  have HP1 := Lib.hid (place_any s f W4 hs (Utf8Tabs_below HT0.out HBW.out))
  have H5 := Lib.hid h5
  have HW4 := Lib.hid hW4
  clear h5 hX hW4
  go_wp2_with fail
  rw [← HX.out, ← HW4.out]
  refine HP1.out.mono ?_
  rintro e5 w5 ⟨rfl, hb5⟩
  have HB5 := Lib.hid (HBW.out.trans (hb5.mono HBW.out.size))
  have h5 := H5.out.below hb5 H5.out.lt
  obtain ⟨⟨c0, c1, c2, c3, c4⟩, f0, f1, f2, f3, f4⟩ := h5.cells
  have H55 := Lib.hid h5
  clear hb5 h5
  obtain ⟨l1, hl1⟩ : ∃ x, x = plL s.data.toList f := ⟨_, rfl⟩
  obtain ⟨k1, hk1⟩ : ∃ x, x = plC s.data.toList f := ⟨_, rfl⟩
  rw [← hl1, ← hk1]
  have HQ1 := Lib.hid (And.intro hl1 hk1)
  clear hl1 hk1
  obtain ⟨W5, hW5⟩ : ∃ W5, W5 = (w5.setCell ⟨w4.heap.size, 0, none⟩ (.int .i64 l1)).setCell ⟨w4.heap.size, 1, none⟩ (.int .i64 k1) := ⟨_, rfl⟩
  have hg0 : w.heap.size < W0.heap.size := by rw [HW0.out]; simp
  have hgg : W0.heap.size ≤ w4.heap.size := HB4.out.size
  have HBX := Lib.hid (show Below W0.heap.size W0 W5 by
    rw [hW5]
    exact (HB5.out.setCell (p := ⟨w4.heap.size, 0, none⟩) hgg _).setCell (p := ⟨w4.heap.size, 1, none⟩) hgg _)
  have H6 := Lib.hid (show FiveB W5 w4.heap.size (.int .i64 l1) (.int .i64 k1) (.int .i64 0) (.int .i64 0) (.string X) by
    rw [hW5]
    exact ⟨blk_set (blk_set H55.out.blk _) _⟩)
  have HP2 := Lib.hid (place_any s ((s.size : Int) - e) W5 hs (Utf8Tabs_below HT0.out HBX.out))
  have HW5 := Lib.hid hW5
  clear hW5
  go_wp2_with fail
  rw [← HW5.out]
  clear c0 c1 c2 c3 c4 f0 f1 f2 f3 f4
  refine HP2.out.mono ?_
  rintro e6 w6 ⟨rfl, hb6⟩
  have HB6 := Lib.hid (HBX.out.trans (hb6.mono HBX.out.size))
  have H7 := Lib.hid (H6.out.below hb6 H6.out.lt)
  have H0 := Lib.hid (FiveB.below (W := W0) (W' := w6) (g := w.heap.size) (v0 := .int .i64 0) (v1 := .int .i64 0) (v2 := .int .i64 0) (v3 := .int .i64 0) (v4 := .string ⟨#[]⟩) ⟨by rw [HW0.out]; exact heap_alloc_new w _⟩ HB6.out hg0)
  clear hb6
  obtain ⟨⟨c0, c1, c2, c3, c4⟩, f0, f1, f2, f3, f4⟩ := H7.out.cells
  obtain ⟨⟨d0, d1, d2, d3, d4⟩, g0, g1, g2, g3, g4⟩ := H0.out.cells
  obtain ⟨l2, hl2⟩ : ∃ x, x = plL s.data.toList ((s.size : Int) - e) := ⟨_, rfl⟩
  obtain ⟨k2, hk2⟩ : ∃ x, x = plC s.data.toList ((s.size : Int) - e) := ⟨_, rfl⟩
  rw [← hl2, ← hk2]
  have HQ2 := Lib.hid (And.intro hl2 hk2)
  clear hl2 hk2
  have hne : ¬ w4.heap.size = w.heap.size := by omega
  have hne2 : ¬ w.heap.size = w4.heap.size := by omega
  go_wp2
  have hsL : s.data.toList.length = s.size := by simp
  have p1 := pl_at (n := f) HV.out.1 (by omega) (by have h := HH.out.v1; rw [← HFE.out.1] at h; exact h)
  have p2 := pl_at (n := s.size - e) HV.out.1 (by omega) (by have h := HH.out.v2; rw [← HFE.out.2] at h; exact h)
  have hse : ((s.size - e : Nat) : Int) = (s.size : Int) - e := by omega
  rw [hse] at p2
  refine bodyPost_ret (v := .tuple #[.agg #[.int .i64 l1, .int .i64 k1, .int .i64 l2, .int .i64 k2, .string X], .int .i64 0]) ?_ rfl ⟨?_, ?_⟩
  · refine results_cell_tmp rfl _ _ w.heap.size 60 #[.int .i64 l1, .int .i64 k1, .int .i64 l2, .int .i64 k2, .string X] (0, 0) _ ?_ ?_ Tryd.underlying60 rfl infoEd5 _ ?_
    · rfl
    · exact five_put H0.out.blk hne2 _ _ _ _ _ _ _
    · rfl
  · unfold etV btX
    rw [← HFE.out.1, ← HFE.out.2, HX.out, HQ1.out.1, HQ1.out.2, HQ2.out.1, HQ2.out.2, p1.1, p1.2.1, p2.1, p2.2.1]
  · have hB6 := HA0.out.trans (HB6.out.mono HA0.out.size)
    have hle : w.heap.size ≤ w4.heap.size := by omega
    exact ((((((hB6.setCell (p := ⟨w4.heap.size, 2, none⟩) hle _).setCell (p := ⟨w4.heap.size, 3, none⟩) hle _).setCell (p := ⟨w.heap.size, 0, none⟩) (Nat.le_refl _) _).setCell (p := ⟨w.heap.size, 1, none⟩) (Nat.le_refl _) _).setCell (p := ⟨w.heap.size, 2, none⟩) (Nat.le_refl _) _).setCell (p := ⟨w.heap.size, 3, none⟩) (Nat.le_refl _) _).setCell (p := ⟨w.heap.size, 4, none⟩) (Nat.le_refl _) _
end Go.Proofs.YtdeihlbnlogjcaaDoor
