/- The walks of TextFront and TextThere. -/
import Derived.Test.YtdeihlbnlogjcaaDoorTexI
import Derived.Deep.RegionWith
namespace Go.Proofs.YtdeihlbnlogjcaaDoor
open Go.RowKit Go.Lib Go.Shelf
set_option maxRecDepth 100000
set_option linter.unusedVariables false

theorem plK_zero {L : List UInt8} {o : Int} (h : plK L o = 0) : validD L = true ∧ isPl L o = true := by
  unfold plK at h
  cases hv : validD L
  · rw [hv] at h
    cases h
  · rw [hv] at h
    cases hi : isPl L o
    · rw [hi] at h
      cases h
    · exact ⟨rfl, rfl⟩
theorem plK_some {L : List UInt8} {o : Int} (h : plK L o ≠ 0) : plL L o = 0 ∧ plC L o = 0 := by
  have : (validD L && isPl L o) = false := by
    cases hv : validD L
    · rfl
    · cases hi : isPl L o
      · rfl
      · exact absurd (by unfold plK; rw [hv, hi]; rfl) h
  unfold plL plC
  rw [this]
  exact ⟨rfl, rfl⟩
theorem front_place (A B : List UInt8) (o : Int) (h : plK A o = 0) :
    (validD B = true ∧ plK (A ++ B) o = 0 ∧ plL (A ++ B) o = plL A o ∧ plC (A ++ B) o = plC A o) ∨ (validD B = false ∧ plK (A ++ B) o = 40) := by
  obtain ⟨hv, hi⟩ := plK_zero h
  have hAB : validD (A ++ B) = validD B := by
    have := (front_runes (A ++ B) A.length (by rw [List.take_left]; exact hv)).2
    rwa [List.drop_left] at this
  have hi0 := hi
  unfold isPl at hi
  simp only [Bool.and_eq_true, decide_eq_true_eq] at hi
  obtain ⟨⟨h0, h1⟩, h2⟩ := hi
  have ht : (A ++ B).take o.toNat = A.take o.toNat := List.take_append_of_le_length (by omega)
  have hi2 : isPl (A ++ B) o = true := by
    unfold isPl
    rw [ht, h2, decide_eq_true h0, decide_eq_true (by rw [List.length_append]; omega)]
    rfl
  cases hb : validD B
  · right
    refine ⟨rfl, ?_⟩
    unfold plK
    rw [hAB, hb]
    rfl
  · left
    refine ⟨rfl, ?_, ?_, ?_⟩
    · unfold plK
      rw [hAB, hb, hi2]
      rfl
    · unfold plL
      rw [hAB, hb, hi2, hv, hi0, ht]
    · unfold plC
      rw [hAB, hb, hi2, hv, hi0, ht]
set_option maxHeartbeats 1000000 in
theorem textFront_walk (s t : ByteArray) (o : Int) (w : World) (hs : s.size ≤ 140737488351232) (ht : t.size ≤ 140737488351232) (_ : (Lit.int .i64 o).wf = true) (hT : Tabs w) (hM : MaxL w) : Calls Tryd.prog 18 #[.string s, .string t, .int .i64 o] w (TruePost w) := by
  go_enter Tryd.func18, Tryd.ntmps18
  go_wp2_with fail
  refine (alive7_any w hT hM).mono ?_
  rintro e w1 ⟨rfl, hb1⟩
  have HB1 := Lib.hid hb1
  by_cases hlen : s.size + t.size > 20000
  · have hl : (s.size : Int) + t.size > 20000 := by omega
    clear hb1 hlen
    go_wp2
    go_ret
    exact ⟨rfl, HB1.out⟩
  · have hl : ¬ (s.size : Int) + t.size > 20000 := by omega
    have HT1 := Lib.hid (Utf8Tabs_below hT hb1)
    have hs1 := hb1.size
    have HAP := Lib.hid (show (s ++ t).data.toList = s.data.toList ++ t.data.toList by rw [ByteArray.data_append, Array.toList_append])
    clear hb1
    obtain ⟨l, hl1⟩ : ∃ l, l = plL s.data.toList o := ⟨_, rfl⟩
    obtain ⟨c, hc1⟩ : ∃ l, l = plC s.data.toList o := ⟨_, rfl⟩
    obtain ⟨k, hk1⟩ : ∃ l, l = plK s.data.toList o := ⟨_, rfl⟩
    obtain ⟨l', hl2⟩ : ∃ l, l = plL (s ++ t).data.toList o := ⟨_, rfl⟩
    obtain ⟨c', hc2⟩ : ∃ l, l = plC (s ++ t).data.toList o := ⟨_, rfl⟩
    obtain ⟨k', hk2⟩ : ∃ l, l = plK (s ++ t).data.toList o := ⟨_, rfl⟩
    have HP1 := Lib.hid (place_any s o w1 (by omega) HT1.out)
    have HP2 := Lib.hid (fun W (h : Below w1.heap.size w1 W) => place_any (s ++ t) o W (by rw [ByteArray.size_append]; omega) (Utf8Tabs_below HT1.out h))
    rw [← hl1, ← hc1, ← hk1] at HP1
    rw [← hl2, ← hc2, ← hk2] at HP2
    have HE := Lib.hid (And.intro hl1 (And.intro hc1 (And.intro hk1 (And.intro hl2 (And.intro hc2 hk2)))))
    clear hl1 hc1 hk1 hl2 hc2 hk2
    go_wp2_with fail
    refine HP1.out.mono ?_
    rintro e w2 ⟨rfl, hb2⟩
    have HB2 := Lib.hid hb2
    clear hb2
    go_wp2_with fail
    refine (HP2.out w2 HB2.out).mono ?_
    rintro e w3 ⟨rfl, hb3⟩
    have HB3 := Lib.hid (HB1.out.trans ((HB2.out.trans (hb3.mono HB2.out.size)).mono hs1))
    have HT3 := Lib.hid (Utf8Tabs_below hT HB3.out)
    clear hb3
    by_cases hk : k = 0
    · rcases front_place s.data.toList t.data.toList o (HE.out.2.2.1 ▸ hk) with ⟨-, e1, e2, e3⟩ | ⟨e1, e2⟩
      · rw [← HAP.out, ← HE.out.2.2.2.2.2] at e1
        rw [← HAP.out, ← HE.out.2.2.2.1, ← HE.out.1] at e2
        rw [← HAP.out, ← HE.out.2.2.2.2.1, ← HE.out.2.1] at e3
        subst e2 e3
        go_wp2
        go_ret
        exact ⟨rfl, HB3.out⟩
      · rw [← HAP.out, ← HE.out.2.2.2.2.2] at e2
        have HLT := Lib.hid (valid_short t e1)
        obtain ⟨capS, objS, hcs, hnewS, hcapS⟩ := conv_bytes (P := Tryd.prog) t 9 22 5 Tryd.underlying9 Tryd.underlying22 Tryd.underlying5
        have HVS : RowKit.Hid (Calls Tryd.prog 21 #[.slice (some ⟨w3.heap.size, 0, none⟩) t.size (capS w3)] ((w3.alloc (objS w3)).drew) fun e w' => e = .returned (.int .i64 (Ut.validP t.data.toList : Nat)) ∧ Below w3.heap.size w3 w') := Lib.hid (valid_conv t (by omega) w3.heap.size (capS w3) (objS w3) w3 w3.drew rfl ((Below.refl _ _).drew) rfl (hcapS _) HT3.out (fun j u hu => hnewS w3 w3.drew j u rfl hu))
        obtain ⟨p, hp, hps⟩ : ∃ p : Nat, p = Ut.validP t.data.toList ∧ (p : Int) < t.size := ⟨_, rfl, HLT.out⟩
        rw [← hp] at HVS
        clear hnewS hcapS hp e1
        go_wp2_with (first | (go_at_call 21; with_reducible (refine HVS.out.mono ?_); rintro e x2 ⟨rfl, hx2⟩; have HX2 := Lib.hid (HB3.out.trans (hx2.mono HB3.out.size)); clear hx2))
        go_ret
        exact ⟨rfl, HX2.out⟩
    · obtain ⟨e1, e2⟩ := plK_some (HE.out.2.2.1 ▸ hk)
      rw [← HE.out.1] at e1
      rw [← HE.out.2.1] at e2
      go_wp2
      go_ret
      exact ⟨rfl, HB3.out⟩
theorem toff_zero {L : List UInt8} {a b : Int} (h : tOffK L a b ≠ 0) : tOffA L a b = 0 := by
  unfold tOffK at h
  unfold tOffA
  by_cases hv : validD L = true
  · rw [if_pos hv] at h
    by_cases hc : 0 ≤ a ∧ a ≤ Lib.countByte L 10 ∧ offK (ownL L a.toNat) b = 0
    · rw [if_pos hc] at h
      exact absurd rfl h
    · rw [if_neg (fun h => hc h.2)]
  · rw [if_neg (fun h => hv h.1)]
theorem toff_valid {L : List UInt8} {a b : Int} (h : tOffK L a b = 0) : validD L = true := by
  unfold tOffK at h
  by_cases hv : validD L = true
  · exact hv
  · rw [if_neg hv] at h
    cases h
/-- a place told in bytes and back. -/
theorem there_back {L : List UInt8} {a b : Int} (h : tOffK L a b = 0) : ∃ n : Nat, tOffA L a b = n ∧ n ≤ L.length ∧ plL L n = a ∧ plC L n = b ∧ plK L n = 0 ∧ 0 ≤ a ∧ validD (L.take n) = true ∧ posB (L.take n) = (a.toNat, b) := by
  have hv := toff_valid h
  obtain ⟨n, h1, h2, h3, h4, h5⟩ := toff_some L hv a b h
  have hi : isPl L n = true := by
    unfold isPl
    rw [Int.toNat_natCast, h3, decide_eq_true (by omega), decide_eq_true (by omega)]
    rfl
  refine ⟨n, h1, h2, ?_, ?_, ?_, h5, h3, h4⟩
  · unfold plL
    rw [hv, hi, Int.toNat_natCast, h4]
    show ((a.toNat : Nat) : Int) = a
    omega
  · unfold plC
    rw [hv, hi, Int.toNat_natCast, h4]
    rfl
  · unfold plK
    rw [hv, hi]
    rfl
theorem there_order {L : List UInt8} {a b c d : Int} (h : tOffK L a b = 0) (k : tOffK L c d = 0) : (tOffA L a b < tOffA L c d) ↔ (a < c ∨ a = c ∧ b < d) := by
  obtain ⟨n, e1, e2, -, -, -, e3, e4, e5⟩ := there_back h
  obtain ⟨m, f1, f2, -, -, -, f3, f4, f5⟩ := there_back k
  rw [e1, f1]
  have key := Nat.lt_trichotomy n m
  have q1 := fun h => front_lt L n m h f2 e4
  have q2 := fun h => front_lt L m n h e2 f4
  have q3 := fun h => front_inj L n m e2 f2 e4 f4 h
  rw [e5, f5] at q1 q2
  unfold ltP at q1 q2
  simp only at q1 q2
  constructor
  · intro h
    have := q1 (by omega)
    omega
  · intro h
    rcases key with k | k | k
    · omega
    · subst k
      rw [e5] at f5
      simp only [Prod.mk.injEq] at f5
      omega
    · have := q2 k
      omega
set_option maxHeartbeats 1000000 in
theorem textThere_walk (s : ByteArray) (a b c d : Int) (w : World) (hs : s.size ≤ maxLen) (wa : (Lit.int .i64 a).wf = true) (wb : (Lit.int .i64 b).wf = true) (wc : (Lit.int .i64 c).wf = true) (wd : (Lit.int .i64 d).wf = true) (hT : Tabs w) (hM : MaxL w) : Calls Tryd.prog 14 #[.string s, .int .i64 a, .int .i64 b, .int .i64 c, .int .i64 d] w (TruePost w) := by
  have hml := Lib.hid (maxL_lt hM)
  go_enter Tryd.func14, Tryd.ntmps14
  go_wp2_with fail
  refine (alive7_any w hT hM).mono ?_
  rintro e w1 ⟨rfl, hb1⟩
  have HB1 := Lib.hid hb1
  by_cases hlen : s.size > 20000
  · have hl : (s.size : Int) > 20000 := by omega
    clear hb1 hlen
    go_wp2
    go_ret
    exact ⟨rfl, HB1.out⟩
  · have hl : ¬ (s.size : Int) > 20000 := by omega
    have HLL := Lib.hid (show s.data.toList.length = s.size by simp)
    clear hb1
    obtain ⟨A, hA⟩ : ∃ l, l = tOffA s.data.toList a b := ⟨_, rfl⟩
    obtain ⟨K, hK⟩ : ∃ l, l = tOffK s.data.toList a b := ⟨_, rfl⟩
    obtain ⟨A', hA'⟩ : ∃ l, l = tOffA s.data.toList c d := ⟨_, rfl⟩
    obtain ⟨K', hK'⟩ : ∃ l, l = tOffK s.data.toList c d := ⟨_, rfl⟩
    have HO1 := Lib.hid (fun W (h : Below w.heap.size w W) => toffset_any s a b W (by omega) wa (Utf8Tabs_below hT h) (maxL_below hM h hml.out))
    have HO2 := Lib.hid (fun W (h : Below w.heap.size w W) => toffset_any s c d W (by omega) wc (Utf8Tabs_below hT h) (maxL_below hM h hml.out))
    have HP := Lib.hid (fun o W (h : Below w.heap.size w W) => place_any s o W (by omega) (Utf8Tabs_below hT h))
    rw [← hA, ← hK] at HO1
    rw [← hA', ← hK'] at HO2
    have HE := Lib.hid (And.intro (And.intro hA hK) (And.intro hA' hK'))
    clear hA hK hA' hK' wa wb wc wd
    go_wp2_with fail
    refine (HO1.out w1 HB1.out).mono ?_
    rintro e w2 ⟨rfl, hb2⟩
    have HB2 := Lib.hid (HB1.out.trans (hb2.mono HB1.out.size))
    clear hb2
    by_cases hk : K = 0
    · obtain ⟨n, e1, e2, e3, e4, e5, -⟩ := there_back (HE.out.1.2 ▸ hk)
      rw [← HE.out.1.1] at e1
      rw [HLL.out] at e2
      have HPP := Lib.hid (HP.out n w2 HB2.out)
      rw [e3, e4, e5] at HPP
      have HK := Lib.hid hk
      clear e3 e4 e5
      subst e1
      have e2' : ¬ (n : Int) > s.size := by omega
      have e3' : ¬ (n : Int) < 0 := by omega
      go_wp2_with fail
      refine HPP.out.mono ?_
      rintro e w3 ⟨rfl, hb3⟩
      have HB3 := Lib.hid (HB2.out.trans (hb3.mono HB2.out.size))
      clear hb3
      go_wp2_with fail
      refine (HO2.out w3 HB3.out).mono ?_
      rintro e w4 ⟨rfl, hb4⟩
      have HB4 := Lib.hid (HB3.out.trans (hb4.mono HB3.out.size))
      clear hb4
      by_cases hk' : K' = 0
      · have ho := there_order (HE.out.1.2 ▸ HK.out) (HE.out.2.2 ▸ hk')
        rw [← HE.out.1.1, ← HE.out.2.1] at ho
        have HOR := Lib.hid ho
        clear ho
        by_cases h1 : a < c
        · have h2 : (n : Int) < A' := HOR.out.2 (.inl h1)
          go_wp2
          go_ret
          exact ⟨rfl, HB4.out⟩
        · by_cases h2 : a = c
          · have HAC := Lib.hid h2
            subst h2
            by_cases h3 : b < d
            · have h4 : (n : Int) < A' := HOR.out.2 (.inr ⟨rfl, h3⟩)
              go_wp2
              go_ret
              exact ⟨rfl, HB4.out⟩
            · have h4 : ¬ (n : Int) < A' := fun h => by
                rcases HOR.out.1 h with h | h
                · exact h1 h
                · exact h3 h.2
              have H5 := Lib.hid (show (decide ((n : Int) < A') == decide (b < d)) = true by rw [decide_eq_false h4, decide_eq_false h3]; rfl)
              go_wp2
              go_ret
              exact ⟨congrArg (fun x => Ending.returned (.bool x)) H5.out, HB4.out⟩
          · have h4 : ¬ (n : Int) < A' := fun h => by
              rcases HOR.out.1 h with h | h
              · exact h1 h
              · exact h2 h.1
            have H5 := Lib.hid (show (decide ((n : Int) < A') == decide (a < c)) = true by rw [decide_eq_false h4, decide_eq_false h1]; rfl)
            go_wp2
            go_ret
            exact ⟨congrArg (fun x => Ending.returned (.bool x)) H5.out, HB4.out⟩
      · go_wp2
        go_ret
        exact ⟨rfl, HB4.out⟩
    · have e1 := toff_zero (HE.out.1.2 ▸ hk)
      rw [← HE.out.1.1] at e1
      go_wp2
      go_ret
      exact ⟨rfl, HB2.out⟩
end Go.Proofs.YtdeihlbnlogjcaaDoor
