/- The contracts of the reference's Valid and Units, and of Spare. -/
import Derived.Test.YtdeihlbnlogjcaaDoorUtfZ
import Derived.Test.YtdeihlbnlogjcaaDoorUtfP
namespace Go.Proofs.YtdeihlbnlogjcaaDoor
open Go.RowKit Go.Lib Go.Shelf
set_option maxRecDepth 100000
set_option linter.unusedVariables false
set_option linter.unusedSectionVars false

theorem rd_from2 {w : World} {B g o c k m : Nat} {L : List UInt8} (h : ∀ j, j < L.length → w.cell? ⟨g, o + j, none⟩ = (bytesV L)[j]?) (hg : g < B) (hm : m = L.length - k) (hk : k ≤ L.length) (hc : m ≤ c) : Rd w B 1 (.slice (some ⟨g, o + k, none⟩) m c) (L.drop k).length (bytesV (L.drop k)) := by
  have hl : (L.drop k).length = m := by rw [List.length_drop]; omega
  refine ⟨by rw [bytesV_len, Nat.mul_one], _, _, by rw [hl], by omega, fun _ => ⟨g, o + k, rfl, hg, fun j hj => ?_⟩⟩
  rw [Nat.add_assoc, h (k + j) (by omega)]
  unfold bytesV
  rw [List.getElem?_map, List.getElem?_map, List.getElem?_drop]
set_option maxHeartbeats 2000000 in
theorem rvalid_any (hF : FirstC) (v : Value) (L : List UInt8) (w : World) (B : Nat) (hB : B ≤ w.heap.size) (h : Rd w B 1 v L.length (bytesV L)) (hl : L.length ≤ 1099511627776) :
    Calls Tryd.prog 22 #[v] w fun e w' => e = .returned (.int .i64 (Ut.validP L : Nat)) ∧ Below w.heap.size w w' := by
  obtain ⟨-, A, c, rfl, hc, hr0⟩ := h
  obtain ⟨n, hn⟩ : ∃ n, n = L.length := ⟨_, rfl⟩
  rw [← hn] at hr0 hc hl ⊢
  have HN := Lib.hid hn
  have HR := Lib.hid hr0
  clear hn hr0
  go_enter Tryd.func22, Tryd.ntmps22
  go_wp2
  go_loopw [3] (fun i wr => ∃ k : Nat, k ≤ n ∧ i = .int .i64 k ∧ RowKit.Hid (Below w.heap.size w wr) ∧ RowKit.Hid (Ut.validP L = k + Ut.validP (L.drop k))) (fun i _ => n - (RowKit.intOf i).toNat)
  case atStart => exact ⟨0, by omega, rfl, Below.refl _ _, by simp [RowKit.Hid]⟩
  case round =>
    obtain ⟨k, hk, rfl, HB, HV⟩ := hrel
    have hsz : w.heap.size ≤ wr.heap.size := HB.out.size
    by_cases hlt : k < n
    · obtain ⟨g, o, rfl, hg, hr⟩ := HR.out (by omega)
      have hki : (k : Int) < n := by omega
      have hne : L.drop k ≠ [] := by
        intro e
        have := congrArg List.length e
        rw [List.length_drop, ← HN.out] at this
        simp at this
        omega
      have HRD := Lib.hid (rd_from2 (w := wr) (B := wr.heap.size) (g := g) (o := o) (c := c - k) (k := k) (m := n - k) (L := L) (fun j hj => (HB.out.cell (p := ⟨g, o + j, none⟩) (by show g < _; omega)).trans (hr j (by have := HN.out; omega))) (by omega) (by have := HN.out; omega) (by have := HN.out; omega) (by omega))
      have HF := Lib.hid (hF _ (L.drop k) wr _ (Nat.le_refl _) HRD.out (by rw [List.length_drop]; have := HN.out; omega))
      have hck : ¬ c = k := by omega
      by_cases hok : Ut.okH (L.drop k)
      · have hK2 := decodeL_le _ hne
        have hK1 := decodeL_width (L.drop k)
        rw [List.length_drop] at hK2
        have hvs := Ut.validP_step _ hne hok
        rw [List.drop_drop] at hvs
        obtain ⟨K, hK⟩ : ∃ K, K = (decodeL (L.drop k)).2 := ⟨_, rfl⟩
        obtain ⟨R, hR⟩ : ∃ R, R = (decodeL (L.drop k)).1 := ⟨_, rfl⟩
        have HF2 := Lib.hid (HF.out.mono fun e w' h => (show e = .returned (.tuple #[.int .i64 (R : Int), .int .i64 (K : Int)]) ∧ Below wr.heap.size wr w' from by rw [hR, hK]; exact h.yes hne hok))
        rw [← hK] at hvs hK1 hK2
        have HV2 := Lib.hid (show Ut.validP L = (k + K) + Ut.validP (L.drop (k + K)) by rw [HV.out, hvs]; omega)
        have hKm : k + K ≤ n := by have := HN.out; omega
        have hK0 : 1 ≤ K := by omega
        have hKi : ¬ (K : Int) = 0 := by omega
        clear hK hR hne hok hK1 hK2 hvs hr
        go_wp2_with (first | (go_at_call 53; with_reducible (refine HF2.out.mono ?_); rintro e w1 ⟨rfl, hb1⟩; have HB2 := Lib.hid (HB.out.trans (hb1.mono hsz)); clear hb1))
        go_roundw
        case rel => exact ⟨k + K, by omega, by go_num, HB2.out, HV2.out⟩
        case measure => simp [RowKit.intOf]; omega
      · have HF2 := Lib.hid (HF.out.mono fun e w' h => h.no hok)
        have hst := Ut.validP_stop _ hok
        have HVK := Lib.hid (show Ut.validP L = k by rw [HV.out, hst]; rfl)
        clear hne hok hst hr
        go_wp2_with (first | (go_at_call 53; with_reducible (refine HF2.out.mono ?_); rintro e w1 ⟨rfl, hb1⟩; have HB2 := Lib.hid (HB.out.trans (hb1.mono hsz)); clear hb1))
        go_ret
        exact ⟨ret_int (by rw [HVK.out]), HB2.out⟩
    · have e : k = n := by omega
      have HVK := Lib.hid (show Ut.validP L = k by rw [HV.out, List.drop_eq_nil_of_le (by have := HN.out; omega), Ut.validP_nil]; rfl)
      have hki : ¬ (k : Int) < n := by omega
      go_wp2
      go_ret
      exact ⟨ret_int (by rw [HVK.out]; omega), HB.out⟩
def RuPost (r : Int) (w : World) (e : Ending) (w' : World) : Prop :=
  ∃ m : Nat, m = (Ut.unitsR r).length ∧ e = .returned (.slice (some ⟨w.heap.size, 0, none⟩) m m) ∧ w' = w.alloc (.cells (intsV (Ut.unitsR r)).toArray 3)
theorem runits2_any (r : Int) (h : Ut.isR r = true) (w : World) : Calls Tryd.prog 56 #[.int .i64 r] w (RuPost r w) := by
  have hr : 0 ≤ r ∧ r ≤ 1114111 := by simp only [Ut.isR, decide_eq_true_eq] at h; omega
  obtain ⟨h0, h9⟩ := hr
  clear h
  by_cases h1 : r < 65536
  · have HW := Lib.hid (show Ut.unitsR r = [r] by unfold Ut.unitsR; rw [if_pos h1])
    go_enter Tryd.func56, Tryd.ntmps56
    go_wp2
    go_ret
    exact ⟨1, by rw [HW.out]; rfl, rfl, by rw [HW.out]; rfl⟩
  · have HW := Lib.hid (show Ut.unitsR r = [55296 + (r - 65536) / 1024, 56320 + (r - 65536) % 1024] by unfold Ut.unitsR; rw [if_neg h1])
    go_enter Tryd.func56, Tryd.ntmps56
    go_wp2
    go_ret
    exact ⟨2, by rw [HW.out]; rfl, rfl, by rw [HW.out]; rfl⟩
theorem ru_cells (w : World) (l : List Int) : ∀ (j : Nat) (u : Value), (intsV l)[j]? = some u → (w.alloc (.cells (intsV l).toArray 3)).cell? ((⟨w.heap.size, 0, none⟩ : Addr).add j) = some u := by
  intro j u hu
  rw [add_off, Nat.zero_add, World.cell?_alloc_mark]
  simpa using hu
set_option maxHeartbeats 2000000 in
theorem runits_any (hF : FirstC) (s : ByteArray) (w : World) (hs : s.size ≤ 1099511627776) :
    Calls Tryd.prog 28 #[.string s] w (UnitsPost s.data.toList w) := by
  obtain ⟨i0, hi0, hz0, hz1, hz2⟩ := info_parts infoInt
  have hct := runes_count _ s.data.toList (Nat.le_refl _)
  rw [show s.data.toList.length = s.size by simp] at hct
  go_enter Tryd.func28, Tryd.ntmps28
  go_wp2_with fail
  refine (rrunes_any hF s w hs).mono ?_
  rintro e w1 ⟨h, hb1⟩
  have HB1 := Lib.hid hb1
  have hs1 := hb1.size
  clear hb1
  cases hv : validD s.data.toList
  · rw [hv, if_neg (by simp)] at h
    subst h
    have HV := Lib.hid hv
    clear hv
    go_wp2
    go_ret2
    exact ⟨by rw [if_neg (by rw [HV.out]; simp)]; rfl, HB1.out⟩
  · rw [hv, if_pos rfl] at h
    obtain ⟨v, rfl, hi⟩ := h
    have HV := Lib.hid hv
    have HIS := Lib.hid (Ut.valid_all _ hv).2.1
    obtain ⟨rs, hrs⟩ : ∃ rs, rs = Ut.runesF s.data.toList := ⟨_, rfl⟩
    have HRS := Lib.hid hrs
    rw [← hrs] at hi hct HIS
    obtain ⟨-, A, c, rfl, hc, hr0⟩ := hi.rd
    obtain ⟨n, hN⟩ : ∃ N, N = rs.length := ⟨_, rfl⟩
    have HN := Lib.hid hN
    rw [← hN] at hc hr0 hct ⊢
    have HR := Lib.hid hr0
    have HMA := Lib.hid (show Ints w1.heap.size [] (.slice (some ⟨w1.heap.size, 0, none⟩) 0 0) (w1.alloc (.cells #[] 3)) from ⟨by simp, World.ownsRow_lit (e := 3) (size := 1) w1 #[] 0 (Nat.le_refl _) (by unfold maxLen; omega) rfl⟩)
    clear hv hrs hi hr0 hN
    go_wp2
    go_loopw [6, 7] (fun v i wr => ∃ k : Nat, k ≤ n ∧ i = .int .i64 k ∧ RowKit.Hid (Ints w1.heap.size (Ut.unitsF (rs.take k)) v wr) ∧ RowKit.Hid (Below w1.heap.size w1 wr)) (fun _ i _ => n - (RowKit.intOf i).toNat)
    case atStart => exact ⟨0, by omega, rfl, HMA.out, (Below.refl _ _).alloc (Nat.le_refl _) _⟩
    case round =>
      obtain ⟨k, hk, rfl, HI, HB⟩ := hrel
      have hsz : w1.heap.size ≤ wr.heap.size := HB.out.size
      by_cases hlt : k < n
      · obtain ⟨g, o, rfl, hg, hr⟩ := HR.out (by omega)
        obtain ⟨r, hrk, d0⟩ := rd_int hr HN.out hlt
        have c0 := (HB.out.cell (p := ⟨g, o + k, none⟩) (by show g < _; omega)).trans d0
        have hkn : (k : Int) < n := by omega
        have his := HIS.out r (List.mem_of_getElem? hrk)
        have HT := Lib.hid (units_take hrk)
        have hcnt := units_count (rs.take k)
        rw [List.length_take] at hcnt
        have HO := Lib.hid HI.out.2
        obtain ⟨m, hm⟩ : ∃ m, m = (Ut.unitsR r).length := ⟨_, rfl⟩
        have hm2 : 1 ≤ m ∧ m ≤ 2 := by rw [hm]; unfold Ut.unitsR; split <;> simp
        obtain ⟨hm3, hm4⟩ := hm2
        have HM := Lib.hid hm
        have HU := Lib.hid ((runits2_any r his wr).mono fun e w' h => (show e = .returned (.slice (some ⟨wr.heap.size, 0, none⟩) m m) ∧ wr.alloc (.cells (intsV (Ut.unitsR r)).toArray 3) = w' from by
          obtain ⟨n, hn, h1, h2⟩ := h
          rw [hm, ← hn]
          exact ⟨h1, h2.symm⟩))
        clear hr d0 his hrk hm
        go_wp2_with (first | (go_at_call 56; with_reducible (refine HU.out.mono ?_); rintro e w2 ⟨rfl, rfl⟩) | (at_builtin; refine wpList_append_own _ rfl _ _ 27 rfl w1.heap.size 3 i0 _ 1 8 Tryd.underlying27 hi0 hz0 hz1 hz2 rfl (by decide) _ _ _ rfl (HO.out.alloc _) ⟨wr.heap.size, 0, none⟩ m m (intsV (Ut.unitsR r)) rfl (by rw [intsV_len, HM.out, Nat.mul_one]) (ru_cells wr _) (intsV_plain _) (by unfold maxLen; omega) (by omega) (by simp; omega) ?_; intro v' w3 hown' hgrow hnil; have HST := Lib.hid (ints_next HM.out.symm (by omega) HB.out HO.out hown' hgrow hnil); clear hown' hgrow hnil))
        go_roundw
        case rel => exact ⟨k + 1, by omega, by go_num, by rw [HT.out]; exact HST.out.1, HST.out.2⟩
        case measure => simp [RowKit.intOf]; omega
      · have e : k = n := by omega
        have HAC := Lib.hid (show rs.take k = rs from List.take_of_length_le (by have := HN.out; omega))
        have HBW := Lib.hid (HB1.out.trans (HB.out.mono hs1))
        have HIB := Lib.hid (HI.out.base hs1)
        go_wp2
        go_ret2
        exact ⟨by rw [if_pos HV.out, ← HRS.out]; exact ⟨_, rfl, by have h := HIB.out; rw [HAC.out] at h; exact h⟩, HBW.out⟩
end Go.Proofs.YtdeihlbnlogjcaaDoor
