/- The walk of UtfRound. -/
import Derived.Test.YtdeihlbnlogjcaaDoorUtfJ
import Derived.Test.YtdeihlbnlogjcaaDoorUtfP
namespace Go.Proofs.YtdeihlbnlogjcaaDoor
open Go.RowKit Go.Lib Go.Shelf
set_option maxRecDepth 100000
set_option linter.unusedVariables false

/-- Valid of '[]byte(s)'. -/
theorem valid_conv (X : ByteArray) (hX : X.size ≤ 1099511627776) (g cap : Nat) (o : Obj) (W M : World) (hM : M.heap = W.heap) (hMb : Below W.heap.size W M) (hg : g = W.heap.size) (hc : X.size ≤ cap) (hT : Tabs W)
    (hcells : ∀ (j : Nat) (u : Value), (bytesV X.data.toList)[j]? = some u → (M.alloc o).cell? ((⟨W.heap.size, 0, none⟩ : Addr).add j) = some u) :
    Calls Tryd.prog 21 #[.slice (some ⟨g, 0, none⟩) X.size cap] (M.alloc o) fun e w' => e = .returned (.int .i64 (Ut.validP X.data.toList : Nat)) ∧ Below W.heap.size W w' := by
  subst hg
  have hs : M.heap.size = W.heap.size := by rw [hM]
  have hb : Below W.heap.size W (M.alloc o) := hMb.alloc (by omega) o
  have hl : X.data.toList.length = X.size := by simp
  refine (valid_any (.slice (some ⟨W.heap.size, 0, none⟩) X.size cap) X.data.toList (M.alloc o) _ (Nat.le_refl _) ?_ (by omega) (Utf8Tabs_below hT hb)).mono fun e w' h => ⟨h.1, hb.trans (h.2.mono hb.size)⟩
  refine ⟨by rw [bytesV_len, Nat.mul_one], _, _, by rw [hl], by omega, fun _ => ⟨W.heap.size, 0, rfl, by rw [World.size_alloc]; omega, fun j hj => ?_⟩⟩
  have hj2 : j < X.data.toList.length := by omega
  have h := hcells j _ (bytesV_get _ j hj2)
  rw [add_off] at h
  rw [h, bytesV_get _ j hj2]
theorem valid_short (s : ByteArray) (h : validD s.data.toList = false) : ((Ut.validP s.data.toList : Nat) : Int) < s.size := by
  have h1 := (Ut.validP_front _ s.data.toList (Nat.le_refl _)).1
  have h2 : Ut.validP s.data.toList ≠ s.data.toList.length := fun e => by
    rw [(Ut.validD_iff _).2 e] at h
    cases h
  have h3 : s.data.toList.length = s.size := by simp
  omega
theorem text_back (s : ByteArray) (h : validD s.data.toList = true) : (Ut.runesF s.data.toList).all Ut.isR = true ∧ (⟨⟨Ut.encs (Ut.runesF s.data.toList)⟩⟩ : ByteArray) = s := by
  obtain ⟨h1, h2, -⟩ := Ut.valid_all _ h
  exact ⟨List.all_eq_true.2 h2, by rw [h1]⟩
theorem isR_all {l : List Int} : (∀ r ∈ l, Ut.isR r = true) ↔ l.all Ut.isR = true := List.all_eq_true.symm
set_option maxHeartbeats 800000 in
theorem utfRound_walk (v : Value) (l : List Int) (s : ByteArray) (w : World) (hv : ArgI w v l) (hs : s.size ≤ maxLen) (hT : Tabs w) : Calls Tryd.prog 6 #[v, .string s] w (TruePost w) := by
  obtain ⟨A, c, rfl, hc⟩ : ∃ A c, v = .slice A l.length c ∧ l.length ≤ c := by
    obtain ⟨⟨-, A, c, e, hc, -⟩, -⟩ := hv
    exact ⟨A, c, e, hc⟩
  obtain ⟨n, hn⟩ : ∃ n, n = l.length := ⟨_, rfl⟩
  have HN := Lib.hid hn
  have HV := Lib.hid hv
  rw [← hn] at hc ⊢
  clear hn hv
  go_enter Tryd.func6, Tryd.ntmps6
  go_wp2_with fail
  refine (alive_any w hT).mono ?_
  rintro e w1 ⟨rfl, hb1⟩
  have HB1 := Lib.hid hb1
  have HT1 := Lib.hid (Utf8Tabs_below hT hb1)
  have hs1 := hb1.size
  have HV1 := Lib.hid (show ArgI w1 _ l from ⟨(HV.out.1.below hb1).more hb1.size, HV.out.2⟩)
  clear hb1
  by_cases hlen : n > 5000 ∨ s.size > 20000
  · by_cases h1 : n > 5000
    · have h2 : (n : Int) > 5000 := by omega
      clear hlen
      go_wp2
      go_ret
      exact ⟨rfl, HB1.out⟩
    · have h2 : ¬ (n : Int) > 5000 := by omega
      have h3 : (s.size : Int) > 20000 := by omega
      clear hlen
      go_wp2
      go_ret
      exact ⟨rfl, HB1.out⟩
  · have h2 : ¬ (n : Int) > 5000 := by omega
    have h3 : ¬ (s.size : Int) > 20000 := by omega
    go_wp2_with fail
    refine (copyInts_any _ l w1 (HN.out ▸ HV1.out) (by have := HN.out; omega)).mono ?_
    rintro e w2 ⟨v2, rfl, ho, hb2⟩
    have HO2 := Lib.hid (Rd.of_own ho.out.2)
    have HB2 := Lib.hid (HB1.out.trans (hb2.mono hs1))
    have HT2 := Lib.hid (Utf8Tabs_below HT1.out hb2)
    have hs2 := hb2.size
    clear hb2 ho
    go_wp2_with fail
    refine (text_any v2 l w2 _ (Nat.le_refl _) HO2.out (by have := HN.out; omega)).mono ?_
    rintro e w3 ⟨h, hb3⟩
    have HB3 := Lib.hid (HB2.out.trans (hb3.mono (by omega)))
    have HT3 := Lib.hid (Utf8Tabs_below HT2.out hb3)
    have hs3 := hb3.size
    clear hb3
    cases hall : l.all Ut.isR
    · rw [hall, if_neg (by simp)] at h
      subst h
      go_wp2_with fail
      refine (runes_any vs s w3 (by omega) HT3.out).mono ?_
      rintro e x1 ⟨h, hc1⟩
      have HC1 := Lib.hid (HB3.out.trans (hc1.mono HB3.out.size))
      have HTC := Lib.hid (Utf8Tabs_below HT3.out hc1)
      clear hc1
      cases hvs : validD s.data.toList
      · rw [hvs, if_neg (by simp)] at h
        subst h
        have HLT := Lib.hid (valid_short s hvs)
        obtain ⟨capS, objS, hcs, hnewS, hcapS⟩ := conv_bytes (P := Tryd.prog) s 9 22 5 Tryd.underlying9 Tryd.underlying22 Tryd.underlying5
        have HVS : RowKit.Hid (Calls Tryd.prog 21 #[.slice (some ⟨x1.heap.size, 0, none⟩) s.size (capS x1)] ((x1.alloc (objS x1)).drew) fun e w' => e = .returned (.int .i64 (Ut.validP s.data.toList : Nat)) ∧ Below x1.heap.size x1 w') := Lib.hid (valid_conv s (by omega) x1.heap.size (capS x1) (objS x1) x1 x1.drew rfl ((Below.refl _ _).drew) rfl (hcapS _) HTC.out (fun j u hu => hnewS x1 x1.drew j u rfl hu))
        obtain ⟨p, hp, hps⟩ : ∃ p : Nat, p = Ut.validP s.data.toList ∧ (p : Int) < s.size := ⟨_, rfl, HLT.out⟩
        rw [← hp] at HVS
        clear hnewS hcapS hvs hp
        go_wp2_with (first | (go_at_call 21; with_reducible (refine HVS.out.mono ?_); rintro e x2 ⟨rfl, hx2⟩; have HX2 := Lib.hid (HC1.out.trans (hx2.mono HC1.out.size)); clear hx2))
        go_ret
        exact ⟨rfl, HX2.out⟩
      · rw [hvs, if_pos rfl] at h
        obtain ⟨vs1, rfl, hi1⟩ := h
        have HI1 := Lib.hid hi1.rd
        have hct := runes_count _ s.data.toList (Nat.le_refl _)
        rw [show s.data.toList.length = s.size by simp] at hct
        have HBK := Lib.hid (text_back s hvs)
        clear hi1 hvs
        go_wp2_with fail
        refine (text_any vs1 (Ut.runesF s.data.toList) x1 _ (Nat.le_refl _) HI1.out (by omega)).mono ?_
        rintro e x2 ⟨h, hx2⟩
        rw [if_pos HBK.out.1, HBK.out.2] at h
        subst h
        have HX2 := Lib.hid (HC1.out.trans (hx2.mono HC1.out.size))
        clear hx2
        go_wp2
        go_ret
        exact ⟨rfl, HX2.out⟩
    · rw [hall, if_pos rfl] at h
      subst h
      have hisr := isR_all.2 hall
      obtain ⟨hv1, hv2, hv3⟩ := Ut.encs_valid l hisr
      obtain ⟨X, hX⟩ : ∃ X : ByteArray, X = ⟨⟨Ut.encs l⟩⟩ := ⟨_, rfl⟩
      have hXl : X.data.toList = Ut.encs l := by rw [hX]
      have hXs : X.size = (Ut.encs l).length := by rw [hX]; rfl
      have hec := encs_count l hisr
      have hXb : X.size ≤ 20000 := by have := HN.out; omega
      rw [← hX]
      have HX := Lib.hid hX
      have HXL := Lib.hid hXl
      have HXS := Lib.hid hXs
      have HE := Lib.hid (And.intro hv1 (And.intro hv2 hv3))
      have HSR := Lib.hid hisr
      clear hX hXl hXs hv1 hv2 hv3 hisr hall
      go_wp2_with fail
      refine (runes_any vs X w3 (by omega) HT3.out).mono ?_
      rintro e w4 ⟨h, hb4⟩
      rw [HXL.out, HE.out.1, if_pos rfl, HE.out.2.1] at h
      obtain ⟨vr, rfl, hir⟩ := h
      have HB4 := Lib.hid (HB3.out.trans (hb4.mono (by omega)))
      have HT4 := Lib.hid (Utf8Tabs_below HT3.out hb4)
      have hs4 := hb4.size
      have HIR := Lib.hid hir.rd
      clear hb4 hir
      go_wp2_with fail
      refine (units_any X w4 (by omega) HT4.out).mono ?_
      rintro e w5 ⟨h, hb5⟩
      rw [HXL.out, HE.out.1, if_pos rfl, HE.out.2.1] at h
      obtain ⟨vu, rfl, hiu⟩ := h
      have HIR5 := Lib.hid (HIR.out.below hb5)
      have HB5 := Lib.hid (HB4.out.trans (hb5.mono (by omega)))
      have HT5 := Lib.hid (Utf8Tabs_below HT4.out hb5)
      have hs5 := hb5.size
      have HIU := Lib.hid hiu.rd
      have hul := units_count l
      clear hb5 hiu
      go_wp2_with fail
      refine (join_any vu (Ut.unitsF l) w5 _ (Nat.le_refl _) HIU.out (by have := HN.out; omega)).mono ?_
      rintro e w6 ⟨h, hb6⟩
      rw [Ut.join_units l HSR.out] at h
      obtain ⟨vj, rfl, hij⟩ := h
      have HIR6 := Lib.hid (HIR5.out.below (hb6.mono hs5))
      have HB6 := Lib.hid (HB5.out.trans (hb6.mono (by omega)))
      have HT6 := Lib.hid (Utf8Tabs_below HT5.out hb6)
      have hs6 := hb6.size
      have HIJ := Lib.hid hij.rd
      have HV6 := Lib.hid ((HV.out.1.below HB6.out).more HB6.out.size)
      clear hb6 hij
      have HS1 := Lib.hid (sameInts_yes vr _ l w6 _ _ HIR6.out HV6.out (by have := HN.out; omega))
      have HS2 := Lib.hid (fun q : Nat => sameInts_yes vj _ l (w6.drewN q) _ _ (HIJ.out.drewN q) (HV6.out.drewN q) (by have := HN.out; omega))
      rw [← HN.out] at HS1 HS2
      obtain ⟨capF, objF, hcb, hnews, hcap⟩ := conv_bytes (P := Tryd.prog) X 9 22 5 Tryd.underlying9 Tryd.underlying22 Tryd.underlying5
      have HNW := Lib.hid hnews
      have HCP := Lib.hid hcap
      have HVE := Lib.hid (show Ut.validP X.data.toList = X.size by rw [HXL.out, HE.out.2.2, HXS.out])
      clear hnews hcap hec hul
      have HVC := Lib.hid (fun q1 q2 : Nat => (valid_conv X (by omega) w6.heap.size (capF (w6.drewN (q1 + q2))) (objF (w6.drewN (q1 + q2))) w6 (w6.drewN (q1 + q2 + 1)) rfl (below_drewN (Below.refl _ _) _) rfl (HCP.out _) HT6.out (fun j u hu => HNW.out (w6.drewN (q1 + q2)) (w6.drewN (q1 + q2 + 1)) j u rfl hu)).mono fun e w' h => (show e = .returned (.int .i64 X.size) ∧ Below w6.heap.size w6 w' from ⟨by rw [h.1, HVE.out], h.2⟩))
      go_wp2_with (first | (go_at_call 26; with_reducible (refine HS1.out.mono ?_); rintro e w7 ⟨rfl, q1, rfl⟩) | (go_at_call 26; with_reducible (refine (HS2.out q1).mono ?_); rintro e w8 ⟨rfl, q2, rfl⟩) | (go_at_call 21; with_reducible (refine (HVC.out q1 q2).mono ?_); rintro e w9 ⟨rfl, hb9⟩; have HB9 := Lib.hid (HB6.out.trans (hb9.mono HB6.out.size)); have HT9 := Lib.hid (Utf8Tabs_below HT6.out hb9); clear hb9))
      refine (runes_any vs s w9 (by omega) HT9.out).mono ?_
      rintro e x1 ⟨h, hc1⟩
      have HC1 := Lib.hid (HB9.out.trans (hc1.mono HB9.out.size))
      have HTC := Lib.hid (Utf8Tabs_below HT9.out hc1)
      clear hc1
      cases hvs : validD s.data.toList
      · rw [hvs, if_neg (by simp)] at h
        subst h
        have HLT := Lib.hid (valid_short s hvs)
        obtain ⟨capS, objS, hcs, hnewS, hcapS⟩ := conv_bytes (P := Tryd.prog) s 9 22 5 Tryd.underlying9 Tryd.underlying22 Tryd.underlying5
        have HVS : RowKit.Hid (Calls Tryd.prog 21 #[.slice (some ⟨x1.heap.size, 0, none⟩) s.size (capS x1)] ((x1.alloc (objS x1)).drew) fun e w' => e = .returned (.int .i64 (Ut.validP s.data.toList : Nat)) ∧ Below x1.heap.size x1 w') := Lib.hid (valid_conv s (by omega) x1.heap.size (capS x1) (objS x1) x1 x1.drew rfl ((Below.refl _ _).drew) rfl (hcapS _) HTC.out (fun j u hu => hnewS x1 x1.drew j u rfl hu))
        obtain ⟨p, hp, hps⟩ : ∃ p : Nat, p = Ut.validP s.data.toList ∧ (p : Int) < s.size := ⟨_, rfl, HLT.out⟩
        rw [← hp] at HVS
        clear hnewS hcapS hvs hp
        go_wp2_with (first | (go_at_call 21; with_reducible (refine HVS.out.mono ?_); rintro e x2 ⟨rfl, hx2⟩; have HX2 := Lib.hid (HC1.out.trans (hx2.mono HC1.out.size)); clear hx2))
        go_ret
        exact ⟨rfl, HX2.out⟩
      · rw [hvs, if_pos rfl] at h
        obtain ⟨vs1, rfl, hi1⟩ := h
        have HI1 := Lib.hid hi1.rd
        have hct := runes_count _ s.data.toList (Nat.le_refl _)
        rw [show s.data.toList.length = s.size by simp] at hct
        have HBK := Lib.hid (text_back s hvs)
        clear hi1 hvs
        go_wp2_with fail
        refine (text_any vs1 (Ut.runesF s.data.toList) x1 _ (Nat.le_refl _) HI1.out (by omega)).mono ?_
        rintro e x2 ⟨h, hx2⟩
        rw [if_pos HBK.out.1, HBK.out.2] at h
        subst h
        have HX2 := Lib.hid (HC1.out.trans (hx2.mono HC1.out.size))
        clear hx2
        go_wp2
        go_ret
        exact ⟨rfl, HX2.out⟩
end Go.Proofs.YtdeihlbnlogjcaaDoor
