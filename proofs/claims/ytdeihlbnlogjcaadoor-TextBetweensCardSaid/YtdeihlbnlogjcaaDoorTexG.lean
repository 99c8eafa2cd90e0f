/- text's apply. -/
import Derived.Test.YtdeihlbnlogjcaaDoorTexF
import Derived.Deep.QuietTactic
import Derived.BigQuiet
namespace Go.Proofs.YtdeihlbnlogjcaaDoor
open Go.RowKit Go.Lib Go.Shelf
set_option maxRecDepth 100000
set_option linter.unusedVariables false

/-- an edit. -/
structure ET where
  a : Int
  b : Int
  c : Int
  d : Int
  t : ByteArray
def etCells (x : ET) : List Value := [.int .i64 x.a, .int .i64 x.b, .int .i64 x.c, .int .i64 x.d, .string x.t]
def etV (x : ET) : Value := .agg #[.int .i64 x.a, .int .i64 x.b, .int .i64 x.c, .int .i64 x.d, .string x.t]
structure EWf (x : ET) : Prop where
  a : (Lit.int .i64 x.a).wf = true
  b : (Lit.int .i64 x.b).wf = true
  c : (Lit.int .i64 x.c).wf = true
  d : (Lit.int .i64 x.d).wf = true
/-- the error of one edit; 0: none. -/
def apE (s : ByteArray) (x : ET) : Int :=
  if validD x.t.data.toList = true then
    if tOffK s.data.toList x.a x.b = 0 then
      if tOffK s.data.toList x.c x.d = 0 then
        if tOffA s.data.toList x.c x.d < tOffA s.data.toList x.a x.b then 71
        else if (s.size : Int) - (tOffA s.data.toList x.c x.d - tOffA s.data.toList x.a x.b) + x.t.size > 32768 then 52 else 0
      else tOffK s.data.toList x.c x.d
    else tOffK s.data.toList x.a x.b
  else 40
def apT (s : ByteArray) (x : ET) : ByteArray := s.extract 0 (tOffA s.data.toList x.a x.b).toNat ++ x.t ++ s.extract (tOffA s.data.toList x.c x.d).toNat s.size
def apS (s : ByteArray) (x : ET) : ByteArray := if apE s x = 0 then apT s x else ⟨#[]⟩
theorem tOff_cases (L : List UInt8) (a b : Int) : tOffK L a b ≠ 0 ∨ ∃ n : Nat, tOffA L a b = n ∧ n ≤ L.length ∧ validD L = true ∧ validD (L.take n) = true := by
  by_cases h : tOffK L a b = 0
  · by_cases hv : validD L = true
    · obtain ⟨n, h1, h2, h3, -⟩ := toff_some L hv a b h
      exact .inr ⟨n, h1, h2, hv, h3⟩
    · unfold tOffK at h
      rw [if_neg hv] at h
      cases h
  · exact .inl h
theorem box_cells {w W : World} {x : ET} (h : Below (w.alloc (.cells #[.int .i64 x.a, .int .i64 x.b, .int .i64 x.c, .int .i64 x.d, .string x.t] 60)).heap.size (w.alloc (.cells #[.int .i64 x.a, .int .i64 x.b, .int .i64 x.c, .int .i64 x.d, .string x.t] 60)) W) :
    W.cell? ⟨w.heap.size, 0, none⟩ = some (.int .i64 x.a) ∧ W.cell? ⟨w.heap.size, 1, none⟩ = some (.int .i64 x.b) ∧ W.cell? ⟨w.heap.size, 2, none⟩ = some (.int .i64 x.c) ∧ W.cell? ⟨w.heap.size, 3, none⟩ = some (.int .i64 x.d) ∧ W.cell? ⟨w.heap.size, 4, none⟩ = some (.string x.t) := by
  have key : ∀ (j : Nat) (u : Value), (etCells x)[j]? = some u → W.cell? ⟨w.heap.size, j, none⟩ = some u := by
    intro j u hu
    rw [h.cell (p := ⟨w.heap.size, j, none⟩) (by simp), cell_of_row _ w.heap.size j _ 60 (0, 0) (heap_alloc_new w _)]
    simpa [etCells] using hu
  exact ⟨key 0 _ rfl, key 1 _ rfl, key 2 _ rfl, key 3 _ rfl, key 4 _ rfl⟩
set_option maxHeartbeats 1500000 in
theorem apply1_any (s : ByteArray) (x : ET) (w : World) (hs : s.size ≤ 1099511627) (hx : x.t.size ≤ 1099511627776) (hw : EWf x) (hT : Tabs w) (hM : MaxL w) :
    Calls Tryd.prog 67 #[.string s, etV x] w fun e w' => e = .returned (.tuple #[.string (apS s x), .int .i64 (apE s x)]) ∧ Below w.heap.size w w' := by
  obtain ⟨W0, hW0⟩ : ∃ W0, W0 = w.alloc (.cells #[.int .i64 x.a, .int .i64 x.b, .int .i64 x.c, .int .i64 x.d, .string x.t] 60) := ⟨_, rfl⟩
  have hA0 : Below w.heap.size w W0 := by rw [hW0]; exact (Below.refl _ w).alloc (Nat.le_refl _) _
  have hs0 : W0.heap.size = w.heap.size + 1 := by rw [hW0]; simp
  have HBC := Lib.hid (fun W (h : Below W0.heap.size W0 W) => box_cells (w := w) (x := x) (hW0 ▸ h))
  have HT0 := Lib.hid (Utf8Tabs_below hT hA0)
  have HM0 := Lib.hid (maxL_below hM hA0 (maxL_lt hM))
  have HA0 := Lib.hid hA0
  have HS0 := Lib.hid hs0
  have HL := Lib.hid (show s.data.toList.length = s.size by simp)
  have hsz := HL.out
  obtain ⟨E, hE⟩ : ∃ E, E = apE s x := ⟨_, rfl⟩
  obtain ⟨R, hR⟩ : ∃ R, R = apS s x := ⟨_, rfl⟩
  have HE := Lib.hid hE
  have HR := Lib.hid hR
  rw [← hE, ← hR]
  have hwa := hw.a
  have hwc := hw.c
  have HO1 := Lib.hid (fun W (h : Below W0.heap.size W0 W) => toffset_any s x.a x.b W hs hwa (Utf8Tabs_below HT0.out h) (maxL_below HM0.out h (maxL_lt HM0.out)))
  have HO2 := Lib.hid (fun W (h : Below W0.heap.size W0 W) => toffset_any s x.c x.d W hs hwc (Utf8Tabs_below HT0.out h) (maxL_below HM0.out h (maxL_lt HM0.out)))
  have HIT := Lib.hid (isText_any x.t W0 hx HT0.out)
  clear hA0 hs0 hE hR hwa hwc hsz hw
  obtain ⟨a, b, c, d, t⟩ := x
  unfold etV
  simp only at hx HBC HO1 HO2 HIT hW0
  obtain ⟨z0, z1, z2, z3, z4⟩ := HBC.out W0 (Below.refl _ _)
  rw [hW0] at z4 HIT
  clear z0 z1 z2 z3
  have HW0 := Lib.hid hW0
  clear hW0
  go_enter Tryd.func67, Tryd.ntmps67
  go_wp2_with fail
  refine HIT.out.mono ?_
  rintro e w1 ⟨rfl, hb1⟩
  rw [← HW0.out] at hb1
  have HB1 := Lib.hid hb1
  obtain ⟨z0, z1, z2, z3, z4⟩ := HBC.out w1 hb1
  have HF1 := Lib.hid (HA0.out.trans (hb1.mono HA0.out.size))
  clear hb1
  cases hv : validD t.data.toList
  · have HF := Lib.hid (show E = 40 ∧ R = ⟨#[]⟩ by
      rw [HE.out, HR.out]
      unfold apS apE
      simp [hv])
    clear hv
    go_wp2
    go_ret2
    exact ⟨by rw [HF.out.1, HF.out.2]; rfl, HF1.out⟩
  · have HV := Lib.hid hv
    clear hv
    obtain ⟨k1, hk1⟩ : ∃ k, k = tOffK s.data.toList a b := ⟨_, rfl⟩
    obtain ⟨o1, ho1⟩ : ∃ k, k = tOffA s.data.toList a b := ⟨_, rfl⟩
    have HC1 := Lib.hid (HO1.out w1 HB1.out)
    rw [← hk1, ← ho1] at HC1
    have HK1 := Lib.hid (And.intro hk1 ho1)
    clear hk1 ho1
    go_wp2_with fail
    refine HC1.out.mono ?_
    rintro e w2 ⟨rfl, hb2⟩
    have HB2 := Lib.hid (HB1.out.trans (hb2.mono HB1.out.size))
    have HF2 := Lib.hid (HF1.out.trans (hb2.mono HF1.out.size))
    clear hb2 z0 z1 z2 z3 z4
    obtain ⟨z0, z1, z2, z3, z4⟩ := HBC.out w2 HB2.out
    by_cases hk : k1 = 0
    · obtain ⟨k2, hk2⟩ : ∃ k, k = tOffK s.data.toList c d := ⟨_, rfl⟩
      obtain ⟨o2, ho2⟩ : ∃ k, k = tOffA s.data.toList c d := ⟨_, rfl⟩
      have HC2 := Lib.hid (HO2.out w2 HB2.out)
      rw [← hk2, ← ho2] at HC2
      have HK2 := Lib.hid (And.intro hk2 ho2)
      have HK := Lib.hid hk
      clear hk2 ho2
      go_wp2_with fail
      refine HC2.out.mono ?_
      rintro e w3 ⟨rfl, hb3⟩
      have HB3 := Lib.hid (HB2.out.trans (hb3.mono HB2.out.size))
      have HF3 := Lib.hid (HF2.out.trans (hb3.mono HF2.out.size))
      clear hb3 z0 z1 z2 z3 z4
      obtain ⟨z0, z1, z2, z3, z4⟩ := HBC.out w3 HB3.out
      by_cases hq : k2 = 0
      · obtain ⟨n1, hn1, hl1⟩ : ∃ n : Nat, o1 = n ∧ n ≤ s.size := by
          rcases tOff_cases s.data.toList a b with h | ⟨n, h1, h2, -⟩
          · exact absurd (HK1.out.1 ▸ HK.out) h
          · exact ⟨n, by rw [HK1.out.2, h1], by rw [← HL.out]; exact h2⟩
        obtain ⟨n2, hn2, hl2⟩ : ∃ n : Nat, o2 = n ∧ n ≤ s.size := by
          rcases tOff_cases s.data.toList c d with h | ⟨n, h1, h2, -⟩
          · exact absurd (HK2.out.1 ▸ hq) h
          · exact ⟨n, by rw [HK2.out.2, h1], by rw [← HL.out]; exact h2⟩
        subst hn1 hn2
        have HQ := Lib.hid hq
        have HFE := Lib.hid (show E = if (n2 : Int) < n1 then 71 else if (s.size : Int) - (n2 - n1) + t.size > 32768 then 52 else 0 by
          rw [HE.out]
          unfold apE
          rw [if_pos HV.out, if_pos (HK1.out.1 ▸ HK.out), if_pos (HK2.out.1 ▸ HQ.out)]
          simp only
          rw [← HK1.out.2, ← HK2.out.2])
        have HFR := Lib.hid (show R = if E = 0 then s.extract 0 n1 ++ t ++ s.extract n2 s.size else ⟨#[]⟩ by
          rw [HR.out, HE.out]
          unfold apS apT
          simp only
          rw [← HK1.out.2, ← HK2.out.2, Int.toNat_natCast, Int.toNat_natCast])
        by_cases hlt : (n2 : Int) < n1
        · have HF := Lib.hid (show E = 71 ∧ R = ⟨#[]⟩ by
            have h := HFE.out
            rw [if_pos hlt] at h
            rw [HFR.out, h]
            exact ⟨rfl, rfl⟩)
          go_wp2
          go_ret2
          exact ⟨by rw [HF.out.1, HF.out.2]; rfl, HF3.out⟩
        · by_cases hgt : (s.size : Int) - (n2 - n1) + t.size > 32768
          · have HF := Lib.hid (show E = 52 ∧ R = ⟨#[]⟩ by
              have h := HFE.out
              rw [if_neg hlt, if_pos hgt] at h
              rw [HFR.out, h]
              exact ⟨rfl, rfl⟩)
            go_wp2
            go_ret2
            exact ⟨by rw [HF.out.1, HF.out.2]; rfl, HF3.out⟩
          · have HF := Lib.hid (show E = 0 ∧ R = s.extract 0 n1 ++ t ++ s.extract n2 s.size by
              have h := HFE.out
              rw [if_neg hlt, if_neg hgt] at h
              rw [HFR.out, h]
              exact ⟨rfl, rfl⟩)
            go_wp2
            go_quiet (fail)
            go_wp2
            go_ret2
            exact ⟨by rw [HF.out.1, HF.out.2]; rfl, below_drewN HF3.out _⟩
      · have HF := Lib.hid (show E = k2 ∧ R = ⟨#[]⟩ by
          have h : E = k2 := by
            rw [HE.out]
            unfold apE
            rw [if_pos HV.out, if_pos (HK1.out.1 ▸ HK.out), if_neg (HK2.out.1 ▸ hq)]
            exact HK2.out.1.symm
          refine ⟨h, ?_⟩
          rw [HR.out]
          unfold apS
          rw [if_neg (by rw [← HE.out, h]; exact hq)])
        go_wp2
        go_ret2
        exact ⟨by rw [HF.out.1, HF.out.2]; rfl, HF3.out⟩
    · have HF := Lib.hid (show E = k1 ∧ R = ⟨#[]⟩ by
        have h : E = k1 := by
          rw [HE.out]
          unfold apE
          rw [if_pos HV.out, if_neg (HK1.out.1 ▸ hk)]
          exact HK1.out.1.symm
        refine ⟨h, ?_⟩
        rw [HR.out]
        unfold apS
        rw [if_neg (by rw [← HE.out, h]; exact hk)])
      go_wp2
      go_ret2
      exact ⟨by rw [HF.out.1, HF.out.2]; rfl, HF2.out⟩
end Go.Proofs.YtdeihlbnlogjcaaDoor
