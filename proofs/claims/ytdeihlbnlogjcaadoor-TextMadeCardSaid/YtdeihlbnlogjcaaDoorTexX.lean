/- The walk of TextMade. -/
import Derived.Test.YtdeihlbnlogjcaaDoorTexV
namespace Go.Proofs.YtdeihlbnlogjcaaDoor
open Go.RowKit Go.Lib Go.Shelf
set_option maxRecDepth 100000
set_option linter.unusedVariables false

def noE : ET := ⟨0, 0, 0, 0, ⟨#[]⟩⟩
theorem five_put0 {W : World} {g : Nat} {T : TypeId} {v0 v1 v2 v3 v4 : Value} (h : W.heap[g]? = some (.cells #[v0, v1, v2, v3, v4] T (0, 0))) (a b c d x : Value) :
    (((((W.setCell ⟨g, 0, none⟩ a).setCell ⟨g, 1, none⟩ b).setCell ⟨g, 2, none⟩ c).setCell ⟨g, 3, none⟩ d).setCell ⟨g, 4, none⟩ x).heap[g]? = some (.cells #[a, b, c, d, x] T (0, 0)) :=
  blk_set (blk_set (blk_set (blk_set (blk_set h a) b) c) d) x
theorem five_below {w W : World} {a b c d x : Value} (h : Below w.heap.size w W) : Below w.heap.size w (((((W.setCell ⟨w.heap.size, 0, none⟩ a).setCell ⟨w.heap.size, 1, none⟩ b).setCell ⟨w.heap.size, 2, none⟩ c).setCell ⟨w.heap.size, 3, none⟩ d).setCell ⟨w.heap.size, 4, none⟩ x) :=
  ((((h.setCell (p := ⟨w.heap.size, 0, none⟩) (Nat.le_refl _) _).setCell (p := ⟨w.heap.size, 1, none⟩) (Nat.le_refl _) _).setCell (p := ⟨w.heap.size, 2, none⟩) (Nat.le_refl _) _).setCell (p := ⟨w.heap.size, 3, none⟩) (Nat.le_refl _) _).setCell (p := ⟨w.heap.size, 4, none⟩) (Nat.le_refl _) _
set_option maxHeartbeats 1000000 in
theorem between_bad (s t : ByteArray) (w : World) (hs : s.size ≤ 1099511627) (ht : t.size ≤ 1099511627) (hT : Tabs w) (hbad : validD s.data.toList = false ∨ validD t.data.toList = false) :
    Calls Tryd.prog 50 #[.string s, .string t] w fun e w' => e = .returned (.tuple #[etV noE, .int .i64 40]) ∧ Below w.heap.size w w' := by
  obtain ⟨W0, hW0⟩ : ∃ W0, W0 = w.alloc (.cells #[.int .i64 0, .int .i64 0, .int .i64 0, .int .i64 0, .string ⟨#[]⟩] 60) := ⟨_, rfl⟩
  have hA0 : Below w.heap.size w W0 := by rw [hW0]; exact (Below.refl _ w).alloc (Nat.le_refl _) _
  have hg0 : w.heap.size < W0.heap.size := by rw [hW0]; simp
  have HT0 := Lib.hid (Utf8Tabs_below hT hA0)
  have HA0 := Lib.hid hA0
  have HI1 := Lib.hid (fun W (h : Below W0.heap.size W0 W) => isText_any s W (by omega) (Utf8Tabs_below HT0.out h))
  have HI2 := Lib.hid (fun W (h : Below W0.heap.size W0 W) => isText_any t W (by omega) (Utf8Tabs_below HT0.out h))
  have H0 := Lib.hid (fun W (h : Below W0.heap.size W0 W) => FiveB.below (W := W0) (W' := W) (g := w.heap.size) (v0 := .int .i64 0) (v1 := .int .i64 0) (v2 := .int .i64 0) (v3 := .int .i64 0) (v4 := .string ⟨#[]⟩) ⟨by rw [hW0]; exact heap_alloc_new w _⟩ h hg0)
  have HW0 := Lib.hid hW0
  clear hA0 hW0
  cases hv : validD s.data.toList
  · rw [hv] at HI1
    clear hv hbad
    go_enter Tryd.func50, Tryd.ntmps50
    go_wp2_with fail
    rw [← HW0.out]
    refine (HI1.out W0 (Below.refl _ _)).mono ?_
    rintro e1 w1 ⟨rfl, hb1⟩
    have HB1 := Lib.hid hb1
    have HC := Lib.hid (H0.out w1 hb1)
    obtain ⟨⟨d0, d1, d2, d3, d4⟩, g0, g1, g2, g3, g4⟩ := HC.out.cells
    clear hb1
    go_wp2
    refine bodyPost_ret (v := .tuple #[.agg #[.int .i64 0, .int .i64 0, .int .i64 0, .int .i64 0, .string ⟨#[]⟩], .int .i64 40]) ?_ rfl ⟨rfl, five_below (HA0.out.trans (HB1.out.mono HA0.out.size))⟩
    refine results_cell_tmp rfl _ _ w.heap.size 60 #[.int .i64 0, .int .i64 0, .int .i64 0, .int .i64 0, .string ⟨#[]⟩] (0, 0) _ ?_ ?_ Tryd.underlying60 rfl infoEd5 _ ?_
    · rfl
    · exact five_put0 HC.out.blk _ _ _ _ _
    · rfl
  · have hvt : validD t.data.toList = false := by
      rcases hbad with h | h
      · rw [hv] at h
        cases h
      · exact h
    rw [hv] at HI1
    rw [hvt] at HI2
    clear hv hvt hbad
    go_enter Tryd.func50, Tryd.ntmps50
    go_wp2_with fail
    rw [← HW0.out]
    refine (HI1.out W0 (Below.refl _ _)).mono ?_
    rintro e1 w1 ⟨rfl, hb1⟩
    have HB1 := Lib.hid hb1
    clear hb1
    go_wp2_with fail
    refine (HI2.out w1 HB1.out).mono ?_
    rintro e2 w2 ⟨rfl, hb2⟩
    have HB2 := Lib.hid (HB1.out.trans (hb2.mono HB1.out.size))
    have HC := Lib.hid (H0.out w2 HB2.out)
    obtain ⟨⟨d0, d1, d2, d3, d4⟩, g0, g1, g2, g3, g4⟩ := HC.out.cells
    clear hb2
    go_wp2
    refine bodyPost_ret (v := .tuple #[.agg #[.int .i64 0, .int .i64 0, .int .i64 0, .int .i64 0, .string ⟨#[]⟩], .int .i64 40]) ?_ rfl ⟨rfl, five_below (HA0.out.trans (HB2.out.mono HA0.out.size))⟩
    refine results_cell_tmp rfl _ _ w.heap.size 60 #[.int .i64 0, .int .i64 0, .int .i64 0, .int .i64 0, .string ⟨#[]⟩] (0, 0) _ ?_ ?_ Tryd.underlying60 rfl infoEd5 _ ?_
    · rfl
    · exact five_put0 HC.out.blk _ _ _ _ _
    · rfl

theorem run_of_lit (W : World) (x : ET) : Rd (W.alloc (.cells #[.int .i64 x.a, .int .i64 x.b, .int .i64 x.c, .int .i64 x.d, .string x.t] 60)) (W.alloc (.cells #[.int .i64 x.a, .int .i64 x.b, .int .i64 x.c, .int .i64 x.d, .string x.t] 60)).heap.size 5 (.slice (some ⟨W.heap.size, 0, none⟩) 1 1) [x].length (etsCells [x]) := by
  have := Rd.lit W #[.int .i64 x.a, .int .i64 x.b, .int .i64 x.c, .int .i64 x.d, .string x.t] 60 5 1 1 rfl (Nat.le_refl _)
  rw [World.size_alloc]
  exact this
theorem str_empty {x s t : ByteArray} {P : Prop} (h : (x = ⟨#[]⟩ ∧ P) ↔ s = t) : (x.toList = [] ∧ P) ↔ s.toList = t.toList := by
  have e : ∀ a b : ByteArray, a.toList = b.toList ↔ a = b := fun a b => by
    rw [Lib.toList_data, Lib.toList_data]
    exact ⟨fun h => ByteArray.ext (Array.ext' h), fun h => by rw [h]⟩
  have e2 : x.toList = [] ↔ x = ⟨#[]⟩ := by
    have := e x ⟨#[]⟩
    rwa [show (⟨#[]⟩ : ByteArray).toList = [] by rw [Lib.toList_data]] at this
  rw [e, e2]
  exact h
set_option maxHeartbeats 1500000 in
theorem textMade_walk (s t : ByteArray) (w : World) (hs : s.size ≤ 140737488351232) (ht : t.size ≤ 140737488351232) (hT : Tabs w) (hM : MaxL w) : Calls Tryd.prog 15 #[.string s, .string t] w (TruePost w) := by
  have hml := Lib.hid (maxL_lt hM)
  go_enter Tryd.func15, Tryd.ntmps15
  go_wp2_with fail
  refine (alive7_any w hT hM).mono ?_
  rintro e w1 ⟨rfl, hb1⟩
  have HB1 := Lib.hid hb1
  clear hb1
  by_cases hlen : s.size + t.size > 50000
  · have hl : (s.size : Int) + t.size > 50000 := by omega
    clear hlen
    go_wp2
    go_ret
    exact ⟨rfl, HB1.out⟩
  · have hl : ¬ (s.size : Int) + t.size > 50000 := by omega
    have HT1 := Lib.hid (Utf8Tabs_below hT HB1.out)
    by_cases hbad : validD s.data.toList = false ∨ validD t.data.toList = false
    · have HBD := Lib.hid (between_bad s t w1 (by omega) (by omega) HT1.out hbad)
      have HOR := Lib.hid hbad
      unfold noE etV at HBD
      clear hbad
      go_wp2_with fail
      refine HBD.out.mono ?_
      rintro e w2 ⟨rfl, hb2⟩
      have HB2 := Lib.hid (HB1.out.trans (hb2.mono HB1.out.size))
      clear hb2
      have hs2 := HB2.out.size
      obtain ⟨W2, hW2⟩ : ∃ W2, W2 = w2.alloc (.cells #[.int .i64 0, .int .i64 0, .int .i64 0, .int .i64 0, .string ⟨#[]⟩] 60) := ⟨_, rfl⟩
      have HX2 := Lib.hid (show Below w.heap.size w W2 by rw [hW2]; exact HB2.out.alloc hs2 _)
      have HT2 := Lib.hid (Utf8Tabs_below hT HX2.out)
      have HW2 := Lib.hid hW2
      clear hW2
      obtain ⟨capS, objS, hcs, hnewS, hcapS⟩ := conv_bytes (P := Tryd.prog) s 9 22 5 Tryd.underlying9 Tryd.underlying22 Tryd.underlying5
      have hvs0 : Calls Tryd.prog 21 #[.slice (some ⟨W2.heap.size, 0, none⟩) s.size (capS W2)] ((W2.alloc (objS W2)).drew) fun e w' => e = .returned (.int .i64 (Ut.validP s.data.toList : Nat)) ∧ Below W2.heap.size W2 w' := valid_conv s (by omega) W2.heap.size (capS W2) (objS W2) W2 W2.drew rfl ((Below.refl _ _).drew) rfl (hcapS _) HT2.out (fun j u hu => hnewS W2 W2.drew j u rfl hu)
      obtain ⟨p, hp⟩ : ∃ p : Nat, p = Ut.validP s.data.toList := ⟨_, rfl⟩
      rw [← hp] at hvs0
      have HVS := Lib.hid (hvs0.mono fun e w' h => (show e = .returned (.int .i64 (p : Nat)) ∧ Below w.heap.size w w' from ⟨h.1, HX2.out.trans (h.2.mono HX2.out.size)⟩))
      clear hvs0 hnewS hcapS
      rw [HW2.out, World.size_alloc] at HVS
      cases hv : validD s.data.toList
      · have hps : (p : Int) < s.size := by rw [hp]; exact valid_short s hv
        clear hv hp
        go_wp2_with (first | (go_at_call 21; with_reducible (refine HVS.out.mono ?_); rintro e x2 ⟨rfl, hx2⟩; have HX3 := Lib.hid hx2; clear hx2))
        go_ret
        exact ⟨rfl, HX3.out⟩
      · have hvt : validD t.data.toList = false := by
          rcases HOR.out with h | h
          · rw [hv] at h
            cases h
          · exact h
        have hps : ¬ (p : Int) < s.size := by
          have h := (Ut.validD_iff _).1 hv
          rw [← hp, show s.data.toList.length = s.size by simp] at h
          omega
        have HLT := Lib.hid (valid_short t hvt)
        obtain ⟨p2, hp2, hps2⟩ : ∃ p : Nat, p = Ut.validP t.data.toList ∧ (p : Int) < t.size := ⟨_, rfl, HLT.out⟩
        obtain ⟨capT, objT, hct, hnewT, hcapT⟩ := conv_bytes (P := Tryd.prog) t 9 22 5 Tryd.underlying9 Tryd.underlying22 Tryd.underlying5
        have HVT : RowKit.Hid (∀ W, Below w.heap.size w W → Calls Tryd.prog 21 #[.slice (some ⟨W.heap.size, 0, none⟩) t.size (capT W)] ((W.alloc (objT W)).drew) fun e w' => e = .returned (.int .i64 (p2 : Nat)) ∧ Below W.heap.size W w') := Lib.hid (fun W hb => by
          rw [hp2]
          exact valid_conv t (by omega) W.heap.size (capT W) (objT W) W W.drew rfl ((Below.refl _ _).drew) rfl (hcapT _) (Utf8Tabs_below hT hb) (fun j u hu => hnewT W W.drew j u rfl hu))
        clear hnewT hcapT hp2 hp hv hvt
        go_wp2_with (first | (go_at_call 21; with_reducible (refine HVS.out.mono ?_); rintro e x2 ⟨rfl, hx2⟩; have HX3 := Lib.hid hx2; clear hx2) | (go_at_call 21; with_reducible (refine (HVT.out x2 HX3.out).mono ?_); rintro e x3 ⟨rfl, hx3⟩; have HX4 := Lib.hid (HX3.out.trans (hx3.mono HX3.out.size)); clear hx3))
        go_ret
        exact ⟨rfl, HX4.out⟩
    · have hvs : validD s.data.toList = true := by
        cases h : validD s.data.toList
        · exact absurd (.inl h) hbad
        · rfl
      have hvt : validD t.data.toList = true := by
        cases h : validD t.data.toList
        · exact absurd (.inr h) hbad
        · rfl
      have HBT := Lib.hid (between_any s t w1 (by omega) (by omega) HT1.out hvs hvt)
      have HOK := Lib.hid (bt_wf s t hvs hvt (by omega) (by omega))
      have HAP := Lib.hid (bt_apply s t hvs hvt)
      have HEM := Lib.hid (bt_empty s t hvs hvt)
      clear hbad hvs hvt
      obtain ⟨x, hx⟩ : ∃ x, x = btX s t := ⟨_, rfl⟩
      rw [← hx] at HBT HOK HAP HEM
      clear hx
      obtain ⟨xa, xb, xc, xd, xt⟩ := x
      unfold etV at HBT
      simp only at HBT HEM
      go_wp2_with fail
      refine HBT.out.mono ?_
      rintro e w2 ⟨rfl, hb2⟩
      have HB2 := Lib.hid (HB1.out.trans (hb2.mono HB1.out.size))
      clear hb2
      have hs2 := HB2.out.size
      obtain ⟨O, hO⟩ : ∃ O : Obj, O = .cells #[.int .i64 xa, .int .i64 xb, .int .i64 xc, .int .i64 xd, .string xt] 60 := ⟨_, rfl⟩
      have hbA := (HB2.out.alloc hs2 O).alloc (by have := (HB2.out.alloc hs2 O).size; exact this) O
      have h3 := apply_any (.slice (some ⟨(w2.alloc O).heap.size, 0, none⟩) 1 1) [⟨xa, xb, xc, xd, xt⟩] s ((w2.alloc O).alloc O) (by rw [hO]; exact run_of_lit (w2.alloc (.cells #[.int .i64 xa, .int .i64 xb, .int .i64 xc, .int .i64 xd, .string xt] 60)) ⟨xa, xb, xc, xd, xt⟩) (by omega) (fun x hx => by rw [List.mem_singleton.1 hx]; exact HOK.out) (by simp) (Utf8Tabs_below hT hbA) (maxL_below hM hbA hml.out)
      have h5 : ∀ W, Below ((w2.alloc O).alloc O).heap.size ((w2.alloc O).alloc O) W → FiveB W w2.heap.size (.int .i64 xa) (.int .i64 xb) (.int .i64 xc) (.int .i64 xd) (.string xt) ∧ Below w.heap.size w W := fun W hb => ⟨by
          refine FiveB.below (W := (w2.alloc O).alloc O) ⟨?_⟩ hb (by simp; omega)
          rw [Below.heap_alloc _ _ _ (by simp), hO]
          exact heap_alloc_new w2 _, hbA.trans (hb.mono hbA.size)⟩
      have HF5 := Lib.hid h5
      obtain ⟨E, hE⟩ : ∃ E, E = apAE s [⟨xa, xb, xc, xd, xt⟩] := ⟨_, rfl⟩
      obtain ⟨R, hR⟩ : ∃ E, E = apAS s [⟨xa, xb, xc, xd, xt⟩] := ⟨_, rfl⟩
      rw [← hE, ← hR] at h3 HAP
      have HA := Lib.hid (h3.mono fun e w' h => (show e = .returned (.tuple #[.string R, .int .i64 E]) ∧ FiveB w' w2.heap.size (.int .i64 xa) (.int .i64 xb) (.int .i64 xc) (.int .i64 xd) (.string xt) ∧ Below w.heap.size w w' from ⟨h.1, h5 _ h.2⟩))
      rw [hO, World.size_alloc] at HA
      clear h3 h5 HF5 hbA hO hE hR
      go_wp2_with fail
      refine HA.out.mono ?_
      rintro e w3 ⟨rfl, h5, hb3⟩
      obtain ⟨⟨c0, c1, c2, c3, c4⟩, f0, f1, f2, f3, f4⟩ := h5.cells
      have HB3 := Lib.hid hb3
      clear hb3 h5
      by_cases hlt : t.size > 32768
      · obtain ⟨e1, e2⟩ := HAP.out.1 hlt
        have hlti : (t.size : Int) > 32768 := by omega
        subst e1 e2
        go_wp2
        go_ret
        exact ⟨rfl, HB3.out⟩
      · obtain ⟨e1, e2⟩ := HAP.out.2 hlt
        have hlti : ¬ (t.size : Int) > 32768 := by omega
        have HEQ := Lib.hid (str_empty HEM.out)
        subst e1 e2
        by_cases q : xt.toList = [] ∧ xa = xc ∧ xb = xd
        · have hst : (s.toList == R.toList) = true := by rw [HEQ.out.1 q]; simp
          obtain ⟨q1, q2, q3⟩ := q
          go_wp2
          go_ret
          exact ⟨rfl, HB3.out⟩
        · have hst : (s.toList == R.toList) = false := by
            cases h : (s.toList == R.toList)
            · rfl
            · exact absurd (HEQ.out.2 (by simpa using h)) q
          by_cases q1 : xt.toList = []
          · by_cases q2 : xa = xc
            · have q3 : ¬ xb = xd := fun h => q ⟨q1, q2, h⟩
              have q3' : (xb == xd) = false := by simpa using q3
              clear q q3
              go_wp2
              go_ret
              exact ⟨rfl, HB3.out⟩
            · clear q
              go_wp2
              go_ret
              exact ⟨rfl, HB3.out⟩
          · clear q
            go_wp2
            go_ret
            exact ⟨rfl, HB3.out⟩
end Go.Proofs.YtdeihlbnlogjcaaDoor
