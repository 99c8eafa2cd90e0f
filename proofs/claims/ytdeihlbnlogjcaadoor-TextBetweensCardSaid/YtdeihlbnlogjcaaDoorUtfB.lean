/- The contract of utf's Valid. -/
import Derived.Test.YtdeihlbnlogjcaaDoorUtfA
namespace Go.Proofs.YtdeihlbnlogjcaaDoor
open Go.RowKit Go.Lib Go.Shelf
set_option maxRecDepth 100000
set_option linter.unusedVariables false
set_option linter.unusedSectionVars false

set_option maxHeartbeats 2000000 in
theorem valid_any (v : Value) (L : List UInt8) (w : World) (B : Nat) (hB : B ≤ w.heap.size) (h : Rd w B 1 v L.length (bytesV L)) (hl : L.length ≤ 1099511627776) (hT : Tabs w) :
    Calls Tryd.prog 21 #[v] w fun e w' => e = .returned (.int .i64 (Ut.validP L : Nat)) ∧ Below w.heap.size w w' := by
  obtain ⟨-, A, c, rfl, hc, hr⟩ := h
  obtain ⟨n, hn⟩ : ∃ n, n = L.length := ⟨_, rfl⟩
  rw [← hn] at hr hc hl ⊢
  have HN := Lib.hid hn
  have HR := Lib.hid hr
  have HT := Lib.hid hT
  clear hn hr hT
  go_enter Tryd.func21, Tryd.ntmps21
  go_wp2
  go_loopw [3] (fun i wr => ∃ k : Nat, k ≤ n ∧ i = .int .i64 k ∧ RowKit.Hid (Ut.validP L = k + Ut.validP (L.drop k)) ∧ RowKit.Hid (Below w.heap.size w wr)) (fun i _ => n - (RowKit.intOf i).toNat)
  case atStart => exact ⟨0, by omega, rfl, by simp [RowKit.Hid], Below.refl _ _⟩
  case round =>
    obtain ⟨k, hk, rfl, HV, HB⟩ := hrel
    have hsz : w.heap.size ≤ wr.heap.size := HB.out.size
    by_cases hlt : k < n
    · obtain ⟨g, o, rfl, hg, hr⟩ := HR.out (by omega)
      have hkn : (k : Int) < n := by omega
      have hck : ¬ c = k := by omega
      obtain ⟨l, hl'⟩ : ∃ l, l = L.drop k := ⟨_, rfl⟩
      have hll : l.length = n - k := by rw [hl', List.length_drop, HN.out]
      have hne : l ≠ [] := by intro e; rw [e] at hll; simp at hll; omega
      have hcell : ∀ j, j < l.length → wr.cell? ⟨g, o + k + j, none⟩ = (bytesV l)[j]? := fun j hj => by
        have h1 := (HB.out.cell (p := ⟨g, o + (k + j), none⟩) (by show g < _; omega)).trans (hr (k + j) (by omega))
        rw [Nat.add_assoc, h1, hl']
        simp [bytesV, List.getElem?_drop]
      have HD := Lib.hid (decode_any l hne g (o + k) (c - k) wr (Utf8Tabs_below HT.out (HB.out.mono (by omega))) hcell)
      have hwd := Ut.drop_lt hne
      have hle := decodeL_le l hne
      have hw1 := decodeL_width l
      rw [hll] at hle
      by_cases ok : Ut.okH l
      · have hst := Ut.validP_step l hne ok
        unfold Ut.okH at ok
        obtain ⟨R, K, hRK⟩ : ∃ R K, decodeL l = (R, K) := ⟨_, _, rfl⟩
        rw [hRK] at HD hst hle hw1 ok
        simp only at HD hst hle hw1 ok
        rw [hll] at HD
        have HS := Lib.hid (show Ut.validP L = ((k + K : Nat)) + Ut.validP (L.drop (k + K)) by rw [HV.out, ← hl', hst, hl', List.drop_drop]; omega)
        clear hr hcell hst hRK hwd hl' hll hne
        by_cases hR : R = 65533
        · have hK : 2 ≤ K := by omega
          subst hR
          clear ok
          go_wp2_with (first | (go_at_call 52; with_reducible (refine HD.out.mono ?_); rintro e w1 ⟨rfl, hb1⟩; have HB1 := Lib.hid hb1; clear hb1))
          go_roundw
          case rel => exact ⟨k + K, by omega, by go_num, HS, HB.out.trans (HB1.out.mono hsz)⟩
          case measure => simp [RowKit.intOf]; omega
        · have hRb : ((R : Int) == 65533) = false := by simp; omega
          clear ok hR
          go_wp2_with (first | (go_at_call 52; with_reducible (refine HD.out.mono ?_); rintro e w1 ⟨rfl, hb1⟩; have HB1 := Lib.hid hb1; clear hb1))
          go_roundw
          case rel => exact ⟨k + K, by omega, by go_num, HS, HB.out.trans (HB1.out.mono hsz)⟩
          case measure => simp [RowKit.intOf]; omega
      · have hst := Ut.validP_stop l ok
        have ok2 := Classical.not_not.1 ok
        rw [ok2.1, ok2.2, hll] at HD
        have HS := Lib.hid (show Ut.validP L = k by rw [HV.out, ← hl', hst]; rfl)
        clear hr hcell hst hwd hl' hll hne ok ok2 hle hw1
        go_wp2_with (first | (go_at_call 52; with_reducible (refine HD.out.mono ?_); rintro e w1 ⟨rfl, hb1⟩; have HB1 := Lib.hid hb1; clear hb1))
        go_ret
        exact ⟨ret_int (by rw [HS.out]), HB.out.trans (HB1.out.mono hsz)⟩
    · go_wp2
      go_ret
      have e : k = n := by omega
      subst e
      refine ⟨ret_int ?_, HB.out⟩
      have h := HV.out
      rw [HN.out, List.drop_length, Ut.validP_nil] at h
      rw [h, ← HN.out]
      rfl
end Go.Proofs.YtdeihlbnlogjcaaDoor
