/- What text's Between says: plain mathematics. The contract of text's Between; the walk of TextMade. The walk of TextMade. -/
import Derived.Test.YtdeihlbnlogjcaaDoorTexN
namespace Go.Proofs.YtdeihlbnlogjcaaDoor
open Go.RowKit Go.Lib Go.Shelf
set_option maxRecDepth 100000
set_option linter.unusedVariables false

theorem wid_le : ∀ rs : List Int, (∀ r ∈ rs, Ut.isR r = true) → wid rs ≤ (Ut.encs rs).length
  | [], _ => by simp [wid]
  | r :: rs, h => by
    have ih := wid_le rs fun u hu => h u (List.mem_cons_of_mem _ hu)
    have hl := Ut.enc_len r (h r (List.mem_cons_self ..))
    rw [Ut.encs_cons, List.length_append, wid]
    unfold Ut.widthR
    split <;> omega
theorem pos_bound (L : List UInt8) (hv : validD L = true) : (posB L).1 ≤ L.length ∧ 0 ≤ (posB L).2 ∧ (posB L).2 ≤ L.length := by
  obtain ⟨k1, k2, -⟩ := Ut.valid_all L hv
  obtain ⟨a, b, e, ha, hb⟩ := last_line (Ut.runesF L)
  have hbr : ∀ r ∈ b, Ut.isR r = true := fun r h => k2 r (by rw [e]; simp [h])
  have h1 : (posB L).1 = Lib.countByte L 10 := by
    unfold posB
    rw [posR_count, ← count_encs _ k2, k1]
  have h2 : (posB L).2 = wid b := by
    unfold posB
    rw [e, pos_own ha hb]
  have h3 : (Ut.encs b).length ≤ L.length := by
    rw [← k1, e, Ut.encs_app, List.length_append]
    omega
  have := wid_le b hbr
  exact ⟨by rw [h1]; exact count_le L, by rw [h2]; exact wid_nonneg b, by omega⟩
theorem wf_of {n : Int} (h0 : 0 ≤ n) (h1 : n ≤ 1099511627) : (Lit.int .i64 n).wf = true := by
  have e1 : IntKind.i64.min = -9223372036854775808 := rfl
  have e2 : IntKind.i64.max = 9223372036854775807 := rfl
  show (decide (IntKind.i64.min ≤ n) && decide (n ≤ IntKind.i64.max)) = true
  rw [e1, e2, decide_eq_true (by omega), decide_eq_true (by omega)]
  rfl
/-- where the front ends, and where the end begins. -/
def btF (s t : ByteArray) : Nat := frontB s.data.toList t.data.toList
def btE (s t : ByteArray) : Nat := endB (s.data.toList.drop (btF s t)) (t.data.toList.drop (btF s t))
def btX (s t : ByteArray) : ET :=
  ⟨(posB (s.data.toList.take (btF s t))).1, (posB (s.data.toList.take (btF s t))).2, (posB (s.data.toList.take (s.size - btE s t))).1, (posB (s.data.toList.take (s.size - btE s t))).2, t.extract (btF s t) (t.size - btE s t)⟩
structure BtS (s t : ByteArray) (f e : Nat) : Prop where
  f1 : f + e ≤ s.size
  f2 : f + e ≤ t.size
  v1 : validD (s.data.toList.take f) = true
  v2 : validD (s.data.toList.take (s.size - e)) = true
  v3 : validD (t.extract f (t.size - e)).data.toList = true
  v4 : validD (t.data.toList.take f) = true
  front : s.data.toList.take f = t.data.toList.take f
  back : s.data.toList.drop (s.size - e) = t.data.toList.drop (t.size - e)
theorem bt_spec (s t : ByteArray) (hs : validD s.data.toList = true) (ht : validD t.data.toList = true) : BtS s t (btF s t) (btE s t) := by
  have hLs : s.data.toList.length = s.size := by simp
  have hLt : t.data.toList.length = t.size := by simp
  obtain ⟨h1, h2, h3, h4, h5⟩ := front_spec _ _ hs ht
  obtain ⟨f, hf⟩ : ∃ f, f = btF s t := ⟨_, rfl⟩
  have hf' : frontB s.data.toList t.data.toList = f := by rw [hf]; rfl
  rw [hf'] at h1 h2 h3 h4 h5
  have d1 : validD (s.data.toList.drop f) = true := by rw [← (front_runes _ f h4).2]; exact hs
  have d2 : validD (t.data.toList.drop f) = true := by rw [← (front_runes _ f h5).2]; exact ht
  obtain ⟨k1, k2, k3, k4⟩ := end_spec (s.data.toList.drop f) (t.data.toList.drop f) d1
  obtain ⟨e, he⟩ : ∃ e, e = btE s t := ⟨_, rfl⟩
  have he' : endB (s.data.toList.drop f) (t.data.toList.drop f) = e := by rw [he, hf]; rfl
  rw [he'] at k1 k2 k3 k4
  rw [← hf, ← he]
  rw [List.length_drop, hLs] at k1 k3 k4
  rw [List.length_drop, hLt] at k2 k3
  rw [hLs] at h1
  rw [hLt] at h2
  rw [List.drop_drop, List.drop_drop, show f + (s.size - f - e) = s.size - e by omega, show f + (t.size - f - e) = t.size - e by omega] at k3
  have c2 : validD (s.data.toList.take (s.size - e)) = true := by
    rw [show s.size - e = f + (s.size - f - e) by omega, List.take_add, valid_app _ _ h4]
    exact k4
  have c3 : contL (s.data.toList) (s.size - e) = false := (cont_valid _ hs _ (by omega)).2 c2
  have c4 : contL (t.data.toList) (t.size - e) = false := by
    rcases Nat.eq_zero_or_pos e with h0 | h0
    · rw [h0, Nat.sub_zero, ← hLt]
      exact cont_len _
    · have g := congrArg (fun l => l[0]?) k3
      simp only [List.getElem?_drop, Nat.add_zero] at g
      unfold contL at c3 ⊢
      rw [← g]
      exact c3
  have c5 := (cont_valid _ ht (t.size - e) (by omega)).1 c4
  refine ⟨by omega, by omega, h4, c2, ?_, h5, h3, k3⟩
  have hx : (t.extract f (t.size - e)).data.toList = (t.data.toList.take (t.size - e)).drop f := by
    rw [ByteArray.data_extract, Array.toList_extract, List.extract_eq_take_drop, List.drop_take]
  rw [hx]
  have := (front_runes (t.data.toList.take (t.size - e)) f (by rw [List.take_take, Nat.min_eq_left (by omega)]; exact h5)).2
  rw [← this]
  exact c5
theorem bt_wf (s t : ByteArray) (hs : validD s.data.toList = true) (ht : validD t.data.toList = true) (h1 : s.size ≤ 1099511627) (h2 : t.size ≤ 1099511627) : EdOk (btX s t) := by
  have H := bt_spec s t hs ht
  have b1 := pos_bound _ H.v1
  have b2 := pos_bound _ H.v2
  have l1 : (s.data.toList.take (btF s t)).length ≤ s.size := by
    rw [List.length_take, show s.data.toList.length = s.size by simp]
    omega
  have l2 : (s.data.toList.take (s.size - btE s t)).length ≤ s.size := by
    rw [List.length_take, show s.data.toList.length = s.size by simp]
    omega
  refine ⟨⟨wf_of ?_ ?_, wf_of b1.2.1 ?_, wf_of ?_ ?_, wf_of b2.2.1 ?_⟩, ?_⟩
  · show (0 : Int) ≤ ((posB _).1 : Nat); omega
  · show (((posB _).1 : Nat) : Int) ≤ _; omega
  · show (posB _).2 ≤ _; omega
  · show (0 : Int) ≤ ((posB _).1 : Nat); omega
  · show (((posB _).1 : Nat) : Int) ≤ _; omega
  · show (posB _).2 ≤ _; omega
  · show (t.extract _ _).size ≤ _
    rw [ByteArray.size_extract]
    omega
/-- what Apply makes of it. -/
theorem bt_apply (s t : ByteArray) (hs : validD s.data.toList = true) (ht : validD t.data.toList = true) :
    (t.size > 32768 → apAE s [btX s t] = 52 ∧ apAS s [btX s t] = ⟨#[]⟩) ∧ (¬ t.size > 32768 → apAE s [btX s t] = 0 ∧ apAS s [btX s t] = t) := by
  have H := bt_spec s t hs ht
  have hLs : s.data.toList.length = s.size := by simp
  have hLt : t.data.toList.length = t.size := by simp
  obtain ⟨f, hf⟩ : ∃ f, f = btF s t := ⟨_, rfl⟩
  obtain ⟨e, he⟩ : ∃ e, e = btE s t := ⟨_, rfl⟩
  obtain ⟨a1, a2⟩ := toff_back s.data.toList hs (btF s t) (by have := H.f1; omega) H.v1
  obtain ⟨b1, b2⟩ := toff_back s.data.toList hs (s.size - btE s t) (by omega) H.v2
  have hv := H.v3
  have hsz : (t.extract f (t.size - e)).size = t.size - e - f := by
    rw [ByteArray.size_extract]
    omega
  have hf1 := H.f1
  have hf2 := H.f2
  have hE : apE s (btX s t) = if t.size > 32768 then 52 else 0 := by
    unfold apE btX
    simp only
    rw [if_pos hv, if_pos a2, if_pos b2, a1, b1, if_neg (by omega), ← hf, ← he, hsz]
    rw [← hf, ← he] at hf1 hf2
    split <;> rename_i h
    · rw [if_pos (by omega)]
    · rw [if_neg (by omega)]
  unfold apAE apAS apR
  rw [if_pos hs, if_pos hs, hE]
  refine ⟨fun h => ?_, fun h => ?_⟩
  · rw [if_pos h, if_neg (by omega)]
    exact ⟨rfl, rfl⟩
  · rw [if_neg h, if_pos rfl]
    refine ⟨rfl, ?_⟩
    show apT s (btX s t) = t
    apply ByteArray.ext
    apply Array.ext'
    unfold apT btX
    simp only
    rw [a1, b1, ByteArray.data_append, ByteArray.data_append, Array.toList_append, Array.toList_append, Int.toNat_natCast, Int.toNat_natCast, (take_str s _ (by omega)).1, drop_str s _ (by omega), H.front, H.back]
    have hx : (t.extract (btF s t) (t.size - btE s t)).data.toList = (t.data.toList.take (t.size - btE s t)).drop (btF s t) := by
      rw [ByteArray.data_extract, Array.toList_extract, List.extract_eq_take_drop, List.drop_take]
    rw [hx]
    conv => rhs; rw [← List.take_append_drop (t.size - btE s t) t.data.toList]
    congr 1
    conv => rhs; rw [← List.take_append_drop (btF s t) (t.data.toList.take (t.size - btE s t))]
    rw [List.take_take, Nat.min_eq_left (by omega)]
/-- when it is the empty one. -/
theorem bt_empty (s t : ByteArray) (hs : validD s.data.toList = true) (ht : validD t.data.toList = true) :
    ((btX s t).t = ⟨#[]⟩ ∧ (btX s t).a = (btX s t).c ∧ (btX s t).b = (btX s t).d) ↔ s = t := by
  have H := bt_spec s t hs ht
  have hLs : s.data.toList.length = s.size := by simp
  have hLt : t.data.toList.length = t.size := by simp
  have hf1 := H.f1
  have hf2 := H.f2
  constructor
  · rintro ⟨h1, h2, h3⟩
    have hz := congrArg ByteArray.size h1
    unfold btX at hz h2 h3
    simp only at hz h2 h3
    rw [ByteArray.size_extract] at hz
    have hz' : (ByteArray.mk #[]).size = 0 := rfl
    rw [hz'] at hz
    have hp : posB (s.data.toList.take (btF s t)) = posB (s.data.toList.take (s.size - btE s t)) := Prod.ext (by omega) h3
    have hfe := front_inj s.data.toList _ _ (by omega) (by omega) H.v1 H.v2 hp
    apply ByteArray.ext
    apply Array.ext'
    rw [← List.take_append_drop (btF s t) s.data.toList, ← List.take_append_drop (btF s t) t.data.toList, H.front]
    congr 1
    have hb := H.back
    rw [← hfe, show t.size - btE s t = btF s t by omega] at hb
    exact hb
  · rintro rfl
    have hf : btF s s = s.size := by
      unfold btF
      rw [front_self _ hs, hLs]
    have he : btE s s = 0 := by omega
    unfold btX
    rw [hf, he]
    simp only [Nat.sub_zero, and_self, and_true]
    apply ByteArray.ext
    apply Array.ext'
    rw [ByteArray.data_extract, Array.toList_extract, List.extract_eq_take_drop]
    simp
end Go.Proofs.YtdeihlbnlogjcaaDoor
namespace Go.Proofs.YtdeihlbnlogjcaaDoor
open Go.RowKit Go.Lib Go.Shelf
set_option maxRecDepth 100000
set_option linter.unusedVariables false

theorem results_cell_tmp {P : Program} {fn : Func} {p t : Tmp} {ty : TypeId} (h : fn.results = #[.cell p ty, .tmp t]) (tmps : Array Value) (w : World) (g : Nat) (ct : TypeId) (cs : Array Value) (fr : Nat × Nat) (d : TypeDesc)
    (hp : tmps.getD p undef = .pointer (some ⟨g, 0, none⟩)) (hg : w.heap[g]? = some (.cells cs ct fr))
    (hu : P.underlying ty = some d) (hd : (match d with | .struct _ | .array _ _ => true | _ => false) = true) (hi : (P.info? ty).map (·.size) = some cs.size) (v : Value) (hv : tmps.getD t undef = v) :
    (results fn tmps).run P w = .ok (.tuple #[.agg cs, v]) w := by
  subst hv
  have hp' : tmps[p]?.getD undef = .pointer (some ⟨g, 0, none⟩) := by simpa using hp
  simp [results, h, hp', asAddr, run_loadVar_row w g ct ty cs fr d hg hu hd hi]
theorem infoEd5 : (Tryd.prog.info? 60).map (·.size) = some 5 := by kernel_rfl
theorem pl_at {L : List UInt8} {n : Nat} (hv : validD L = true) (hn : n ≤ L.length) (v : validD (L.take n) = true) : plL L n = (posB (L.take n)).1 ∧ plC L n = (posB (L.take n)).2 ∧ plK L n = 0 := by
  have hi : isPl L n = true := by
    unfold isPl
    rw [Int.toNat_natCast, v, decide_eq_true (by omega), decide_eq_true (by omega)]
    rfl
  unfold plL plC plK
  rw [hv, hi, Int.toNat_natCast]
  exact ⟨rfl, rfl, rfl⟩
theorem five_put {W : World} {g g2 : Nat} {T : TypeId} {v0 v1 v2 v3 v4 : Value} (h : W.heap[g]? = some (.cells #[v0, v1, v2, v3, v4] T (0, 0))) (hne : g ≠ g2) (u v a b c d x : Value) :
    (((((((W.setCell ⟨g2, 2, none⟩ u).setCell ⟨g2, 3, none⟩ v).setCell ⟨g, 0, none⟩ a).setCell ⟨g, 1, none⟩ b).setCell ⟨g, 2, none⟩ c).setCell ⟨g, 3, none⟩ d).setCell ⟨g, 4, none⟩ x).heap[g]? = some (.cells #[a, b, c, d, x] T (0, 0)) :=
  blk_set (blk_set (blk_set (blk_set (blk_set (blk_other (a := ⟨g2, 3, none⟩) (blk_other (a := ⟨g2, 2, none⟩) h hne) hne) a) b) c) d) x
set_option maxHeartbeats 1500000 in
theorem between_any (s t : ByteArray) (w : World) (hs : s.size ≤ 1099511627) (ht : t.size ≤ 1099511627) (hT : Tabs w) (vs_ : validD s.data.toList = true) (vt : validD t.data.toList = true) :
    Calls Tryd.prog 50 #[.string s, .string t] w fun e w' => e = .returned (.tuple #[etV (btX s t), .int .i64 0]) ∧ Below w.heap.size w w' := by
  have H := bt_spec s t vs_ vt
  obtain ⟨f, hf⟩ : ∃ f, f = btF s t := ⟨_, rfl⟩
  obtain ⟨e, he⟩ : ∃ e, e = btE s t := ⟨_, rfl⟩
  have hfe1 := H.f1
  have hfe2 := H.f2
  rw [← hf, ← he] at hfe1 hfe2
  have hfs : f ≤ s.size := by omega
  have hft : f ≤ t.size := by omega
  have hfs2 : ¬ (s.size : Int) < f := by omega
  have hft2 : ¬ (t.size : Int) < f := by omega
  have hfs3 : ¬ s.size < f := by omega
  have hft3 : ¬ t.size < f := by omega
  have HFE := Lib.hid (And.intro hf he)
  have HH := Lib.hid H
  have HV := Lib.hid (And.intro vs_ vt)
  have HFR := Lib.hid (fun W => front_any s t W hs ht vs_ vt)
  have hff : frontB s.data.toList t.data.toList = f := by rw [hf]; rfl
  have hee : endB (s.data.toList.drop f) (t.data.toList.drop f) = e := by rw [he, hf]; rfl
  rw [hff] at HFR
  have HEN := Lib.hid (fun W => end_any (s.extract f s.size) (t.extract f t.size) W (by rw [ByteArray.size_extract]; omega) (by rw [ByteArray.size_extract]; omega))
  rw [drop_str s f (by omega), drop_str t f (by omega), hee] at HEN
  obtain ⟨W0, hW0⟩ : ∃ W0, W0 = w.alloc (.cells #[.int .i64 0, .int .i64 0, .int .i64 0, .int .i64 0, .string ⟨#[]⟩] 60) := ⟨_, rfl⟩
  have hA0 : Below w.heap.size w W0 := by rw [hW0]; exact (Below.refl _ w).alloc (Nat.le_refl _) _
  have HT0 := Lib.hid (Utf8Tabs_below hT hA0)
  have HA0 := Lib.hid hA0
  have HI1 := Lib.hid (fun W (h : Below W0.heap.size W0 W) => isText_any s W (by omega) (Utf8Tabs_below HT0.out h))
  have HI2 := Lib.hid (fun W (h : Below W0.heap.size W0 W) => isText_any t W (by omega) (Utf8Tabs_below HT0.out h))
  rw [vs_] at HI1
  rw [vt] at HI2
  have HW0 := Lib.hid hW0
  clear hf he H hff hee hA0 hW0 vs_ vt
  go_enter Tryd.func50, Tryd.ntmps50
  go_wp2_with fail
  rw [← HW0.out]
  refine (HI1.out W0 (Below.refl _ _)).mono ?_
  rintro e1 w1 ⟨rfl, hb1⟩
  have HB1 := Lib.hid hb1
  clear hb1
  go_wp2_with fail
  refine (HI2.out w1 HB1.out).mono ?_
  rintro e2 w2 ⟨rfl, hb2⟩
  have HB2 := Lib.hid (HB1.out.trans (hb2.mono HB1.out.size))
  clear hb2
  go_wp2_with fail
  refine (HFR.out w2).mono ?_
  rintro e3 w3 ⟨rfl, hd3⟩
  have HB3 := Lib.hid (show Below W0.heap.size W0 w3 by
    obtain ⟨q3, rfl⟩ := hd3
    exact below_drewN HB2.out q3)
  have HEN3 := Lib.hid (fun q : Nat => Calls.quiet_of (HEN.out (w3.drewN q)))
  clear hd3
  go_wp2
  go_quiet ((go_at_call 69; exact HEN3.out _))
  have hb4 := below_drewN HB3.out nq
  generalize w3.drewN nq = w4 at hb4 ⊢
  have HB4 := Lib.hid hb4
  clear hb4
  obtain ⟨X, hX⟩ : ∃ X, X = t.extract f (t.size - e) := ⟨_, rfl⟩
  have HX := Lib.hid hX
  obtain ⟨W4, hW4⟩ : ∃ W4, W4 = w4.alloc (.cells #[.int .i64 0, .int .i64 0, .int .i64 0, .int .i64 0, .string X] 60) := ⟨_, rfl⟩
  have h5 : FiveB W4 w4.heap.size (.int .i64 0) (.int .i64 0) (.int .i64 0) (.int .i64 0) (.string X) := by
    rw [hW4]
    exact ⟨heap_alloc_new w4 _⟩
  have HBW := Lib.hid (show Below W0.heap.size W0 W4 by rw [hW4]; exact HB4.out.alloc HB4.out.size _)
  have HP1 := Lib.hid (place_any s f W4 hs (Utf8Tabs_below HT0.out HBW.out))
  have H5 := Lib.hid h5
  have HW4 := Lib.hid hW4
  clear h5 hX hW4
  go_wp2_with fail
  rw [← HX.out, ← HW4.out]
  refine HP1.out.mono ?_
  rintro e5 w5 ⟨rfl, hb5⟩
  have HB5 := Lib.hid (HBW.out.trans (hb5.mono HBW.out.size))
  have h5 := H5.out.below hb5 H5.out.lt
  obtain ⟨⟨c0, c1, c2, c3, c4⟩, f0, f1, f2, f3, f4⟩ := h5.cells
  have H55 := Lib.hid h5
  clear hb5 h5
  obtain ⟨l1, hl1⟩ : ∃ x, x = plL s.data.toList f := ⟨_, rfl⟩
  obtain ⟨k1, hk1⟩ : ∃ x, x = plC s.data.toList f := ⟨_, rfl⟩
  rw [← hl1, ← hk1]
  have HQ1 := Lib.hid (And.intro hl1 hk1)
  clear hl1 hk1
  obtain ⟨W5, hW5⟩ : ∃ W5, W5 = (w5.setCell ⟨w4.heap.size, 0, none⟩ (.int .i64 l1)).setCell ⟨w4.heap.size, 1, none⟩ (.int .i64 k1) := ⟨_, rfl⟩
  have hg0 : w.heap.size < W0.heap.size := by rw [HW0.out]; simp
  have hgg : W0.heap.size ≤ w4.heap.size := HB4.out.size
  have HBX := Lib.hid (show Below W0.heap.size W0 W5 by
    rw [hW5]
    exact (HB5.out.setCell (p := ⟨w4.heap.size, 0, none⟩) hgg _).setCell (p := ⟨w4.heap.size, 1, none⟩) hgg _)
  have H6 := Lib.hid (show FiveB W5 w4.heap.size (.int .i64 l1) (.int .i64 k1) (.int .i64 0) (.int .i64 0) (.string X) by
    rw [hW5]
    exact ⟨blk_set (blk_set H55.out.blk _) _⟩)
  have HP2 := Lib.hid (place_any s ((s.size : Int) - e) W5 hs (Utf8Tabs_below HT0.out HBX.out))
  have HW5 := Lib.hid hW5
  clear hW5
  go_wp2_with fail
  rw [← HW5.out]
  clear c0 c1 c2 c3 c4 f0 f1 f2 f3 f4
  refine HP2.out.mono ?_
  rintro e6 w6 ⟨rfl, hb6⟩
  have HB6 := Lib.hid (HBX.out.trans (hb6.mono HBX.out.size))
  have H7 := Lib.hid (H6.out.below hb6 H6.out.lt)
  have H0 := Lib.hid (FiveB.below (W := W0) (W' := w6) (g := w.heap.size) (v0 := .int .i64 0) (v1 := .int .i64 0) (v2 := .int .i64 0) (v3 := .int .i64 0) (v4 := .string ⟨#[]⟩) ⟨by rw [HW0.out]; exact heap_alloc_new w _⟩ HB6.out hg0)
  clear hb6
  obtain ⟨⟨c0, c1, c2, c3, c4⟩, f0, f1, f2, f3, f4⟩ := H7.out.cells
  obtain ⟨⟨d0, d1, d2, d3, d4⟩, g0, g1, g2, g3, g4⟩ := H0.out.cells
  obtain ⟨l2, hl2⟩ : ∃ x, x = plL s.data.toList ((s.size : Int) - e) := ⟨_, rfl⟩
  obtain ⟨k2, hk2⟩ : ∃ x, x = plC s.data.toList ((s.size : Int) - e) := ⟨_, rfl⟩
  rw [← hl2, ← hk2]
  have HQ2 := Lib.hid (And.intro hl2 hk2)
  clear hl2 hk2
  have hne : ¬ w4.heap.size = w.heap.size := by omega
  have hne2 : ¬ w.heap.size = w4.heap.size := by omega
  go_wp2
  have hsL : s.data.toList.length = s.size := by simp
  have p1 := pl_at (n := f) HV.out.1 (by omega) (by have h := HH.out.v1; rw [← HFE.out.1] at h; exact h)
  have p2 := pl_at (n := s.size - e) HV.out.1 (by omega) (by have h := HH.out.v2; rw [← HFE.out.2] at h; exact h)
  have hse : ((s.size - e : Nat) : Int) = (s.size : Int) - e := by omega
  rw [hse] at p2
  refine bodyPost_ret (v := .tuple #[.agg #[.int .i64 l1, .int .i64 k1, .int .i64 l2, .int .i64 k2, .string X], .int .i64 0]) ?_ rfl ⟨?_, ?_⟩
  · refine results_cell_tmp rfl _ _ w.heap.size 60 #[.int .i64 l1, .int .i64 k1, .int .i64 l2, .int .i64 k2, .string X] (0, 0) _ ?_ ?_ Tryd.underlying60 rfl infoEd5 _ ?_
    · rfl
    · exact five_put H0.out.blk hne2 _ _ _ _ _ _ _
    · rfl
  · unfold etV btX
    rw [← HFE.out.1, ← HFE.out.2, HX.out, HQ1.out.1, HQ1.out.2, HQ2.out.1, HQ2.out.2, p1.1, p1.2.1, p2.1, p2.2.1]
  · have hB6 := HA0.out.trans (HB6.out.mono HA0.out.size)
    have hle : w.heap.size ≤ w4.heap.size := by omega
    exact ((((((hB6.setCell (p := ⟨w4.heap.size, 2, none⟩) hle _).setCell (p := ⟨w4.heap.size, 3, none⟩) hle _).setCell (p := ⟨w.heap.size, 0, none⟩) (Nat.le_refl _) _).setCell (p := ⟨w.heap.size, 1, none⟩) (Nat.le_refl _) _).setCell (p := ⟨w.heap.size, 2, none⟩) (Nat.le_refl _) _).setCell (p := ⟨w.heap.size, 3, none⟩) (Nat.le_refl _) _).setCell (p := ⟨w.heap.size, 4, none⟩) (Nat.le_refl _) _
end Go.Proofs.YtdeihlbnlogjcaaDoor
namespace Go.Proofs.YtdeihlbnlogjcaaDoor
open Go.RowKit Go.Lib Go.Shelf
set_option maxRecDepth 100000
set_option linter.unusedVariables false

def noE : ET := ⟨0, 0, 0, 0, ⟨#[]⟩⟩
theorem five_put0 {W : World} {g : Nat} {T : TypeId} {v0 v1 v2 v3 v4 : Value} (h : W.heap[g]? = some (.cells #[v0, v1, v2, v3, v4] T (0, 0))) (a b c d x : Value) :
    (((((W.setCell ⟨g, 0, none⟩ a).setCell ⟨g, 1, none⟩ b).setCell ⟨g, 2, none⟩ c).setCell ⟨g, 3, none⟩ d).setCell ⟨g, 4, none⟩ x).heap[g]? = some (.cells #[a, b, c, d, x] T (0, 0)) :=
  blk_set (blk_set (blk_set (blk_set (blk_set h a) b) c) d) x
theorem five_below {w W : World} {a b c d x : Value} (h : Below w.heap.size w W) : Below w.heap.size w (((((W.setCell ⟨w.heap.size, 0, none⟩ a).setCell ⟨w.heap.size, 1, none⟩ b).setCell ⟨w.heap.size, 2, none⟩ c).setCell ⟨w.heap.size, 3, none⟩ d).setCell ⟨w.heap.size, 4, none⟩ x) :=
  ((((h.setCell (p := ⟨w.heap.size, 0, none⟩) (Nat.le_refl _) _).setCell (p := ⟨w.heap.size, 1, none⟩) (Nat.le_refl _) _).setCell (p := ⟨w.heap.size, 2, none⟩) (Nat.le_refl _) _).setCell (p := ⟨w.heap.size, 3, none⟩) (Nat.le_refl _) _).setCell (p := ⟨w.heap.size, 4, none⟩) (Nat.le_refl _) _
set_option maxHeartbeats 1000000 in
theorem between_bad (s t : ByteArray) (w : World) (hs : s.size ≤ 1099511627) (ht : t.size ≤ 1099511627) (hT : Tabs w) (hbad : validD s.data.toList = false ∨ validD t.data.toList = false) :
    Calls Tryd.prog 50 #[.string s, .string t] w fun e w' => e = .returned (.tuple #[etV noE, .int .i64 40]) ∧ Below w.heap.size w w' := by
  obtain ⟨W0, hW0⟩ : ∃ W0, W0 = w.alloc (.cells #[.int .i64 0, .int .i64 0, .int .i64 0, .int .i64 0, .string ⟨#[]⟩] 60) := ⟨_, rfl⟩
  have hA0 : Below w.heap.size w W0 := by rw [hW0]; exact (Below.refl _ w).alloc (Nat.le_refl _) _
  have hg0 : w.heap.size < W0.heap.size := by rw [hW0]; simp
  have HT0 := Lib.hid (Utf8Tabs_below hT hA0)
  have HA0 := Lib.hid hA0
  have HI1 := Lib.hid (fun W (h : Below W0.heap.size W0 W) => isText_any s W (by omega) (Utf8Tabs_below HT0.out h))
  have HI2 := Lib.hid (fun W (h : Below W0.heap.size W0 W) => isText_any t W (by omega) (Utf8Tabs_below HT0.out h))
  have H0 := Lib.hid (fun W (h : Below W0.heap.size W0 W) => FiveB.below (W := W0) (W' := W) (g := w.heap.size) (v0 := .int .i64 0) (v1 := .int .i64 0) (v2 := .int .i64 0) (v3 := .int .i64 0) (v4 := .string ⟨#[]⟩) ⟨by rw [hW0]; exact heap_alloc_new w _⟩ h hg0)
  have HW0 := Lib.hid hW0
  clear hA0 hW0
  cases hv : validD s.data.toList
  · rw [hv] at HI1
    clear hv hbad
    go_enter Tryd.func50, Tryd.ntmps50
    go_wp2_with fail
    rw [← HW0.out]
    refine (HI1.out W0 (Below.refl _ _)).mono ?_
    rintro e1 w1 ⟨rfl, hb1⟩
    have HB1 := Lib.hid hb1
    have HC := Lib.hid (H0.out w1 hb1)
    obtain ⟨⟨d0, d1, d2, d3, d4⟩, g0, g1, g2, g3, g4⟩ := HC.out.cells
    clear hb1
    go_wp2
    refine bodyPost_ret (v := .tuple #[.agg #[.int .i64 0, .int .i64 0, .int .i64 0, .int .i64 0, .string ⟨#[]⟩], .int .i64 40]) ?_ rfl ⟨rfl, five_below (HA0.out.trans (HB1.out.mono HA0.out.size))⟩
    refine results_cell_tmp rfl _ _ w.heap.size 60 #[.int .i64 0, .int .i64 0, .int .i64 0, .int .i64 0, .string ⟨#[]⟩] (0, 0) _ ?_ ?_ Tryd.underlying60 rfl infoEd5 _ ?_
    · rfl
    · exact five_put0 HC.out.blk _ _ _ _ _
    · rfl
  · have hvt : validD t.data.toList = false := by
      rcases hbad with h | h
      · rw [hv] at h
        cases h
      · exact h
    rw [hv] at HI1
    rw [hvt] at HI2
    clear hv hvt hbad
    go_enter Tryd.func50, Tryd.ntmps50
    go_wp2_with fail
    rw [← HW0.out]
    refine (HI1.out W0 (Below.refl _ _)).mono ?_
    rintro e1 w1 ⟨rfl, hb1⟩
    have HB1 := Lib.hid hb1
    clear hb1
    go_wp2_with fail
    refine (HI2.out w1 HB1.out).mono ?_
    rintro e2 w2 ⟨rfl, hb2⟩
    have HB2 := Lib.hid (HB1.out.trans (hb2.mono HB1.out.size))
    have HC := Lib.hid (H0.out w2 HB2.out)
    obtain ⟨⟨d0, d1, d2, d3, d4⟩, g0, g1, g2, g3, g4⟩ := HC.out.cells
    clear hb2
    go_wp2
    refine bodyPost_ret (v := .tuple #[.agg #[.int .i64 0, .int .i64 0, .int .i64 0, .int .i64 0, .string ⟨#[]⟩], .int .i64 40]) ?_ rfl ⟨rfl, five_below (HA0.out.trans (HB2.out.mono HA0.out.size))⟩
    refine results_cell_tmp rfl _ _ w.heap.size 60 #[.int .i64 0, .int .i64 0, .int .i64 0, .int .i64 0, .string ⟨#[]⟩] (0, 0) _ ?_ ?_ Tryd.underlying60 rfl infoEd5 _ ?_
    · rfl
    · exact five_put0 HC.out.blk _ _ _ _ _
    · rfl

theorem run_of_lit (W : World) (x : ET) : Rd (W.alloc (.cells #[.int .i64 x.a, .int .i64 x.b, .int .i64 x.c, .int .i64 x.d, .string x.t] 60)) (W.alloc (.cells #[.int .i64 x.a, .int .i64 x.b, .int .i64 x.c, .int .i64 x.d, .string x.t] 60)).heap.size 5 (.slice (some ⟨W.heap.size, 0, none⟩) 1 1) [x].length (etsCells [x]) := by
  have := Rd.lit W #[.int .i64 x.a, .int .i64 x.b, .int .i64 x.c, .int .i64 x.d, .string x.t] 60 5 1 1 rfl (Nat.le_refl _)
  rw [World.size_alloc]
  exact this
theorem str_empty {x s t : ByteArray} {P : Prop} (h : (x = ⟨#[]⟩ ∧ P) ↔ s = t) : (x.toList = [] ∧ P) ↔ s.toList = t.toList := by
  have e : ∀ a b : ByteArray, a.toList = b.toList ↔ a = b := fun a b => by
    rw [Lib.toList_data, Lib.toList_data]
    exact ⟨fun h => ByteArray.ext (Array.ext' h), fun h => by rw [h]⟩
  have e2 : x.toList = [] ↔ x = ⟨#[]⟩ := by
    have := e x ⟨#[]⟩
    rwa [show (⟨#[]⟩ : ByteArray).toList = [] by rw [Lib.toList_data]] at this
  rw [e, e2]
  exact h
set_option maxHeartbeats 1500000 in
theorem textMade_walk (s t : ByteArray) (w : World) (hs : s.size ≤ 140737488351232) (ht : t.size ≤ 140737488351232) (hT : Tabs w) (hM : MaxL w) : Calls Tryd.prog 15 #[.string s, .string t] w (TruePost w) := by
  have hml := Lib.hid (maxL_lt hM)
  go_enter Tryd.func15, Tryd.ntmps15
  go_wp2_with fail
  refine (alive7_any w hT hM).mono ?_
  rintro e w1 ⟨rfl, hb1⟩
  have HB1 := Lib.hid hb1
  clear hb1
  by_cases hlen : s.size + t.size > 50000
  · have hl : (s.size : Int) + t.size > 50000 := by omega
    clear hlen
    go_wp2
    go_ret
    exact ⟨rfl, HB1.out⟩
  · have hl : ¬ (s.size : Int) + t.size > 50000 := by omega
    have HT1 := Lib.hid (Utf8Tabs_below hT HB1.out)
    by_cases hbad : validD s.data.toList = false ∨ validD t.data.toList = false
    · have HBD := Lib.hid (between_bad s t w1 (by omega) (by omega) HT1.out hbad)
      have HOR := Lib.hid hbad
      unfold noE etV at HBD
      clear hbad
      go_wp2_with fail
      refine HBD.out.mono ?_
      rintro e w2 ⟨rfl, hb2⟩
      have HB2 := Lib.hid (HB1.out.trans (hb2.mono HB1.out.size))
      clear hb2
      have hs2 := HB2.out.size
      obtain ⟨W2, hW2⟩ : ∃ W2, W2 = w2.alloc (.cells #[.int .i64 0, .int .i64 0, .int .i64 0, .int .i64 0, .string ⟨#[]⟩] 60) := ⟨_, rfl⟩
      have HX2 := Lib.hid (show Below w.heap.size w W2 by rw [hW2]; exact HB2.out.alloc hs2 _)
      have HT2 := Lib.hid (Utf8Tabs_below hT HX2.out)
      have HW2 := Lib.hid hW2
      clear hW2
      obtain ⟨capS, objS, hcs, hnewS, hcapS⟩ := conv_bytes (P := Tryd.prog) s 9 22 5 Tryd.underlying9 Tryd.underlying22 Tryd.underlying5
      have hvs0 : Calls Tryd.prog 21 #[.slice (some ⟨W2.heap.size, 0, none⟩) s.size (capS W2)] ((W2.alloc (objS W2)).drew) fun e w' => e = .returned (.int .i64 (Ut.validP s.data.toList : Nat)) ∧ Below W2.heap.size W2 w' := valid_conv s (by omega) W2.heap.size (capS W2) (objS W2) W2 W2.drew rfl ((Below.refl _ _).drew) rfl (hcapS _) HT2.out (fun j u hu => hnewS W2 W2.drew j u rfl hu)
      obtain ⟨p, hp⟩ : ∃ p : Nat, p = Ut.validP s.data.toList := ⟨_, rfl⟩
      rw [← hp] at hvs0
      have HVS := Lib.hid (hvs0.mono fun e w' h => (show e = .returned (.int .i64 (p : Nat)) ∧ Below w.heap.size w w' from ⟨h.1, HX2.out.trans (h.2.mono HX2.out.size)⟩))
      clear hvs0 hnewS hcapS
      rw [HW2.out, World.size_alloc] at HVS
      cases hv : validD s.data.toList
      · have hps : (p : Int) < s.size := by rw [hp]; exact valid_short s hv
        clear hv hp
        go_wp2_with (first | (go_at_call 21; with_reducible (refine HVS.out.mono ?_); rintro e x2 ⟨rfl, hx2⟩; have HX3 := Lib.hid hx2; clear hx2))
        go_ret
        exact ⟨rfl, HX3.out⟩
      · have hvt : validD t.data.toList = false := by
          rcases HOR.out with h | h
          · rw [hv] at h
            cases h
          · exact h
        have hps : ¬ (p : Int) < s.size := by
          have h := (Ut.validD_iff _).1 hv
          rw [← hp, show s.data.toList.length = s.size by simp] at h
          omega
        have HLT := Lib.hid (valid_short t hvt)
        obtain ⟨p2, hp2, hps2⟩ : ∃ p : Nat, p = Ut.validP t.data.toList ∧ (p : Int) < t.size := ⟨_, rfl, HLT.out⟩
        obtain ⟨capT, objT, hct, hnewT, hcapT⟩ := conv_bytes (P := Tryd.prog) t 9 22 5 Tryd.underlying9 Tryd.underlying22 Tryd.underlying5
        have HVT : RowKit.Hid (∀ W, Below w.heap.size w W → Calls Tryd.prog 21 #[.slice (some ⟨W.heap.size, 0, none⟩) t.size (capT W)] ((W.alloc (objT W)).drew) fun e w' => e = .returned (.int .i64 (p2 : Nat)) ∧ Below W.heap.size W w') := Lib.hid (fun W hb => by
          rw [hp2]
          exact valid_conv t (by omega) W.heap.size (capT W) (objT W) W W.drew rfl ((Below.refl _ _).drew) rfl (hcapT _) (Utf8Tabs_below hT hb) (fun j u hu => hnewT W W.drew j u rfl hu))
        clear hnewT hcapT hp2 hp hv hvt
        go_wp2_with (first | (go_at_call 21; with_reducible (refine HVS.out.mono ?_); rintro e x2 ⟨rfl, hx2⟩; have HX3 := Lib.hid hx2; clear hx2) | (go_at_call 21; with_reducible (refine (HVT.out x2 HX3.out).mono ?_); rintro e x3 ⟨rfl, hx3⟩; have HX4 := Lib.hid (HX3.out.trans (hx3.mono HX3.out.size)); clear hx3))
        go_ret
        exact ⟨rfl, HX4.out⟩
    · have hvs : validD s.data.toList = true := by
        cases h : validD s.data.toList
        · exact absurd (.inl h) hbad
        · rfl
      have hvt : validD t.data.toList = true := by
        cases h : validD t.data.toList
        · exact absurd (.inr h) hbad
        · rfl
      have HBT := Lib.hid (between_any s t w1 (by omega) (by omega) HT1.out hvs hvt)
      have HOK := Lib.hid (bt_wf s t hvs hvt (by omega) (by omega))
      have HAP := Lib.hid (bt_apply s t hvs hvt)
      have HEM := Lib.hid (bt_empty s t hvs hvt)
      clear hbad hvs hvt
      obtain ⟨x, hx⟩ : ∃ x, x = btX s t := ⟨_, rfl⟩
      rw [← hx] at HBT HOK HAP HEM
      clear hx
      obtain ⟨xa, xb, xc, xd, xt⟩ := x
      unfold etV at HBT
      simp only at HBT HEM
      go_wp2_with fail
      refine HBT.out.mono ?_
      rintro e w2 ⟨rfl, hb2⟩
      have HB2 := Lib.hid (HB1.out.trans (hb2.mono HB1.out.size))
      clear hb2
      have hs2 := HB2.out.size
      obtain ⟨O, hO⟩ : ∃ O : Obj, O = .cells #[.int .i64 xa, .int .i64 xb, .int .i64 xc, .int .i64 xd, .string xt] 60 := ⟨_, rfl⟩
      have hbA := (HB2.out.alloc hs2 O).alloc (by have := (HB2.out.alloc hs2 O).size; exact this) O
      have h3 := apply_any (.slice (some ⟨(w2.alloc O).heap.size, 0, none⟩) 1 1) [⟨xa, xb, xc, xd, xt⟩] s ((w2.alloc O).alloc O) (by rw [hO]; exact run_of_lit (w2.alloc (.cells #[.int .i64 xa, .int .i64 xb, .int .i64 xc, .int .i64 xd, .string xt] 60)) ⟨xa, xb, xc, xd, xt⟩) (by omega) (fun x hx => by rw [List.mem_singleton.1 hx]; exact HOK.out) (by simp) (Utf8Tabs_below hT hbA) (maxL_below hM hbA hml.out)
      have h5 : ∀ W, Below ((w2.alloc O).alloc O).heap.size ((w2.alloc O).alloc O) W → FiveB W w2.heap.size (.int .i64 xa) (.int .i64 xb) (.int .i64 xc) (.int .i64 xd) (.string xt) ∧ Below w.heap.size w W := fun W hb => ⟨by
          refine FiveB.below (W := (w2.alloc O).alloc O) ⟨?_⟩ hb (by simp; omega)
          rw [Below.heap_alloc _ _ _ (by simp), hO]
          exact heap_alloc_new w2 _, hbA.trans (hb.mono hbA.size)⟩
      have HF5 := Lib.hid h5
      obtain ⟨E, hE⟩ : ∃ E, E = apAE s [⟨xa, xb, xc, xd, xt⟩] := ⟨_, rfl⟩
      obtain ⟨R, hR⟩ : ∃ E, E = apAS s [⟨xa, xb, xc, xd, xt⟩] := ⟨_, rfl⟩
      rw [← hE, ← hR] at h3 HAP
      have HA := Lib.hid (h3.mono fun e w' h => (show e = .returned (.tuple #[.string R, .int .i64 E]) ∧ FiveB w' w2.heap.size (.int .i64 xa) (.int .i64 xb) (.int .i64 xc) (.int .i64 xd) (.string xt) ∧ Below w.heap.size w w' from ⟨h.1, h5 _ h.2⟩))
      rw [hO, World.size_alloc] at HA
      clear h3 h5 HF5 hbA hO hE hR
      go_wp2_with fail
      refine HA.out.mono ?_
      rintro e w3 ⟨rfl, h5, hb3⟩
      obtain ⟨⟨c0, c1, c2, c3, c4⟩, f0, f1, f2, f3, f4⟩ := h5.cells
      have HB3 := Lib.hid hb3
      clear hb3 h5
      by_cases hlt : t.size > 32768
      · obtain ⟨e1, e2⟩ := HAP.out.1 hlt
        have hlti : (t.size : Int) > 32768 := by omega
        subst e1 e2
        go_wp2
        go_ret
        exact ⟨rfl, HB3.out⟩
      · obtain ⟨e1, e2⟩ := HAP.out.2 hlt
        have hlti : ¬ (t.size : Int) > 32768 := by omega
        have HEQ := Lib.hid (str_empty HEM.out)
        subst e1 e2
        by_cases q : xt.toList = [] ∧ xa = xc ∧ xb = xd
        · have hst : (s.toList == R.toList) = true := by rw [HEQ.out.1 q]; simp
          obtain ⟨q1, q2, q3⟩ := q
          go_wp2
          go_ret
          exact ⟨rfl, HB3.out⟩
        · have hst : (s.toList == R.toList) = false := by
            cases h : (s.toList == R.toList)
            · rfl
            · exact absurd (HEQ.out.2 (by simpa using h)) q
          by_cases q1 : xt.toList = []
          · by_cases q2 : xa = xc
            · have q3 : ¬ xb = xd := fun h => q ⟨q1, q2, h⟩
              have q3' : (xb == xd) = false := by simpa using q3
              clear q q3
              go_wp2
              go_ret
              exact ⟨rfl, HB3.out⟩
            · clear q
              go_wp2
              go_ret
              exact ⟨rfl, HB3.out⟩
          · clear q
            go_wp2
            go_ret
            exact ⟨rfl, HB3.out⟩
end Go.Proofs.YtdeihlbnlogjcaaDoor
