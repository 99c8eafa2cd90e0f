/- The contract of the reference's first. -/
import Derived.Test.YtdeihlbnlogjcaaDoorUtfXh
namespace Go.Proofs.YtdeihlbnlogjcaaDoor
open Go.RowKit Go.Lib Go.Shelf
set_option maxRecDepth 100000
set_option linter.unusedVariables false
set_option linter.unusedSectionVars false

set_option maxHeartbeats 20000000 in
theorem first_any (v : Value) (L : List UInt8) (w : World) (B : Nat) (hB : B ≤ w.heap.size) (h : Rd w B 1 v L.length (bytesV L)) (hl : L.length ≤ 1099511627776) :
    Calls Tryd.prog 53 #[v] w (FPost L w) := by
  obtain ⟨-, A, c, rfl, hc, hr0⟩ := h
  obtain ⟨n, hn⟩ : ∃ n, n = L.length := ⟨_, rfl⟩
  rw [← hn] at hr0 hc hl ⊢
  have HN := Lib.hid hn
  have HR := Lib.hid hr0
  clear hn hr0
  go_enter Tryd.func53, Tryd.ntmps53
  go_wp2
  go_loopw [4] (fun i wr => ∃ k : Nat, 1 ≤ k ∧ k ≤ 5 ∧ i = .int .i64 k ∧ RowKit.Hid (Below w.heap.size w wr) ∧ RowKit.Hid (L ≠ [] → Ut.okH L → k ≤ (decodeL L).2)) (fun i _ => 6 - (RowKit.intOf i).toNat)
  case atStart => exact ⟨1, by omega, by omega, rfl, Below.refl _ _, fun h1 h2 => (Ut.rk_ok L h1 h2).2.2.1⟩
  case round =>
    obtain ⟨k, hk1, hk5, rfl, HB, HK⟩ := hrel
    have hsz : w.heap.size ≤ wr.heap.size := HB.out.size
    by_cases hkn : k ≤ n ∧ k ≤ 4
    · obtain ⟨hkn, hk4⟩ := hkn
      obtain ⟨g, o, rfl, hg, hr⟩ := HR.out (by omega)
      have hrw : ∀ j, j < n * 1 → wr.cell? ⟨g, o + j, none⟩ = (bytesV L)[j]? := fun j hj => (HB.out.cell (p := ⟨g, o + j, none⟩) (by show g < _; omega)).trans (hr j hj)
      have HCV := Lib.hid (fun (W : World) (hb : Below wr.heap.size wr W) => conv_rd (P := Tryd.prog) (w := W) (l := L.take k) (n := k) (B := wr.heap.size) (v := .slice (some ⟨g, o, none⟩) k c) (by
        refine ⟨by rw [bytesV_len, List.length_take, Nat.mul_one]; have := HN.out; omega, _, _, rfl, by omega, fun _ => ⟨g, o, rfl, by omega, fun j hj => ?_⟩⟩
        rw [hb.cell (p := ⟨g, o + j, none⟩) (by show g < _; omega), hrw j (by omega)]
        unfold bytesV
        rw [List.getElem?_map, List.getElem?_map, List.getElem?_take, if_pos (by omega)]) 22 9 5 Tryd.underlying22 Tryd.underlying5 Tryd.underlying9)
      have HD := Lib.hid (fun i (hi : i < n) => rd_bI hrw HN.out hi)
      clear HR hr hrw
      rcases (by omega : k = 1 ∨ k = 2 ∨ k = 3 ∨ k = 4) with rfl | rfl | rfl | rfl
      · have hkn' : (1 : Int) ≤ n := by omega
        obtain ⟨d0, x0, y0⟩ := HD.out 0 (by omega)
        rw [Nat.add_zero] at d0
        obtain ⟨b0, hb0⟩ : ∃ b, b = Ut.bI L 0 := ⟨_, rfl⟩
        rw [← hb0] at d0 x0 y0
        obtain ⟨r, hr⟩ : ∃ r : Int, r = b0 := ⟨_, rfl⟩
        have HRK := Lib.hid (show Ut.rk L 1 = r from by rw [hr]; show Ut.bI L 0 = _; rw [← hb0])
        clear hb0
        go_wp2
        obtain ⟨M, hM⟩ : ∃ M, M = wr := ⟨_, rfl⟩
        rw [← hM]
        have hMs : M.heap.size = wr.heap.size := by rw [hM]
        have HMB := Lib.hid (show Below wr.heap.size wr M by rw [hM]; exact Below.refl _ _)
        clear hM
        rw [← hr]
        have HMW := Lib.hid (HB.out.trans (HMB.out.mono hsz))
        have hMsz := HMW.out.size
        clear hr hMs d0
        cases his : Ut.isR r
        · have HI := Lib.hid (fun q => (risRune_any r (M.drewN q)).mono fun e w' h => (show e = .returned (.bool false) ∧ ∃ m, w' = M.drewN m from ⟨h.1.trans (ret_bool his), q, h.2.symm⟩))
          have HNX := Lib.hid (miss_next HRK.out (fun h => by rw [his] at h; cases h.1) HK.out)
          clear his
          go_quiet ((go_at_call 59; exact HI.out _))
          go_wp2
          go_roundw
          case rel => exact ⟨2, by omega, by omega, by go_num, below_drewN HMW.out _, HNX.out⟩
          case measure => simp [RowKit.intOf]
        · have HI := Lib.hid (fun W => (risRune_any r W).mono fun e w' h => (show e = .returned (.bool true) ∧ W = w' from ⟨h.1.trans (ret_bool his), h.2⟩))
          obtain ⟨X, hX⟩ : ∃ X : ByteArray, X = ⟨⟨encodeRune r⟩⟩ := ⟨_, rfl⟩
          obtain ⟨Y, hY⟩ : ∃ Y : ByteArray, Y = ⟨⟨L.take 1⟩⟩ := ⟨_, rfl⟩
          obtain ⟨m, hm⟩ : ∃ m, m = (encodeRune r).length := ⟨_, rfl⟩
          obtain ⟨cs, hcs⟩ : ∃ cs, cs = (bytesV (encodeRune r)).toArray := ⟨_, rfl⟩
          have HRB := Lib.hid (fun W => (rbytes_any r his W).mono fun e w' h => (show e = .returned (.slice (some ⟨W.heap.size, 0, none⟩) m m) ∧ W.alloc (.cells cs 5) = w' from by
            obtain ⟨n, hn, h1, h2⟩ := h
            rw [hm, ← hn, hcs]
            exact ⟨h1, h2.symm⟩))
          have hcv2 : (convert 22 9 (.slice (some ⟨M.heap.size, 0, none⟩) m m)).run Tryd.prog (M.alloc (.cells cs 5)).drew = .ok (.string X) (M.alloc (.cells cs 5)).drew := by
            have h := conv_rb M.drew (encodeRune r)
            rw [← hcs, ← hm, ← hX] at h
            exact h
          have hcvq := HCV.out M.drew (HMB.out.drew)
          have hcva := HCV.out (M.alloc (.cells cs 5)).drew ((HMB.out.alloc HMB.out.size _).drew)
          rw [← hY] at hcvq hcva
          have HXY := Lib.hid (show (X.toList == Y.toList) = true → encodeRune r = L.take 1 from fun h => by
            have e := eq_of_beq h
            rw [Lib.toList_data, Lib.toList_data, hX, hY] at e
            exact e)
          have HXN := Lib.hid (show (X.toList == Y.toList) = false → ¬ encodeRune r = L.take 1 from fun h e => by
            rw [Lib.toList_data, Lib.toList_data, hX, hY, e] at h
            simp at h)
          have HIS := Lib.hid his
          have hkL := HN.out
          have HKL := Lib.hid (show 1 ≤ L.length by omega)
          clear hX hY hm hcs his hkL
          go_region_with (first | (go_at_call 59; with_reducible (refine (HI.out _).mono ?_); rintro e w1 ⟨rfl, rfl⟩) | (go_at_call 60; with_reducible (refine (HRB.out _).mono ?_); rintro e w1 ⟨rfl, rfl⟩))
          all_goals have HME := Lib.hid ((HMW.out.alloc hMsz (.cells cs 5)).drew)
          all_goals go_wp2
          all_goals
            rename_i hxy
            first
              | (have HHP := Lib.hid (hit_post HIS.out (HXY.out hxy) HKL.out (by omega) w _ HME.out)
                 go_ret2
                 exact HHP.out)
              | (have HNX := Lib.hid (miss_next HRK.out (fun h => HXN.out hxy h.2) HK.out)
                 go_roundw
                 case rel => exact ⟨2, by omega, by omega, by go_num, HME.out, HNX.out⟩
                 case measure => simp [RowKit.intOf])
      · have hkn' : (2 : Int) ≤ n := by omega
        obtain ⟨d0, x0, y0⟩ := HD.out 0 (by omega)
        obtain ⟨d1, x1, y1⟩ := HD.out 1 (by omega)
        rw [Nat.add_zero] at d0
        obtain ⟨b0, hb0⟩ : ∃ b, b = Ut.bI L 0 := ⟨_, rfl⟩
        rw [← hb0] at d0 x0 y0
        obtain ⟨b1, hb1⟩ : ∃ b, b = Ut.bI L 1 := ⟨_, rfl⟩
        rw [← hb1] at d1 x1 y1
        obtain ⟨r, hr⟩ : ∃ r : Int, r = ((b0 - 192) * 64 + b1 - 128) := ⟨_, rfl⟩
        have HRK := Lib.hid (show Ut.rk L 2 = r from by rw [hr]; show (Ut.bI L 0 - 192) * 64 + Ut.bI L 1 - 128 = _; rw [← hb0, ← hb1])
        clear hb0 hb1
        go_wp2
        go_quiet (fail)
        go_wp2
        obtain ⟨M, hM⟩ : ∃ M, M = wr.drewN nq := ⟨_, rfl⟩
        rw [← hM]
        have hMs : M.heap.size = wr.heap.size := by rw [hM]; rfl
        have HMB := Lib.hid (show Below wr.heap.size wr M by rw [hM]; exact below_drewN (Below.refl _ _) _)
        clear hM
        rw [← hr]
        have HMW := Lib.hid (HB.out.trans (HMB.out.mono hsz))
        have hMsz := HMW.out.size
        clear hr hMs d0 d1
        cases his : Ut.isR r
        · have HI := Lib.hid (fun q => (risRune_any r (M.drewN q)).mono fun e w' h => (show e = .returned (.bool false) ∧ ∃ m, w' = M.drewN m from ⟨h.1.trans (ret_bool his), q, h.2.symm⟩))
          have HNX := Lib.hid (miss_next HRK.out (fun h => by rw [his] at h; cases h.1) HK.out)
          clear his
          go_quiet ((go_at_call 59; exact HI.out _))
          go_wp2
          go_roundw
          case rel => exact ⟨3, by omega, by omega, by go_num, below_drewN HMW.out _, HNX.out⟩
          case measure => simp [RowKit.intOf]
        · have HI := Lib.hid (fun W => (risRune_any r W).mono fun e w' h => (show e = .returned (.bool true) ∧ W = w' from ⟨h.1.trans (ret_bool his), h.2⟩))
          obtain ⟨X, hX⟩ : ∃ X : ByteArray, X = ⟨⟨encodeRune r⟩⟩ := ⟨_, rfl⟩
          obtain ⟨Y, hY⟩ : ∃ Y : ByteArray, Y = ⟨⟨L.take 2⟩⟩ := ⟨_, rfl⟩
          obtain ⟨m, hm⟩ : ∃ m, m = (encodeRune r).length := ⟨_, rfl⟩
          obtain ⟨cs, hcs⟩ : ∃ cs, cs = (bytesV (encodeRune r)).toArray := ⟨_, rfl⟩
          have HRB := Lib.hid (fun W => (rbytes_any r his W).mono fun e w' h => (show e = .returned (.slice (some ⟨W.heap.size, 0, none⟩) m m) ∧ W.alloc (.cells cs 5) = w' from by
            obtain ⟨n, hn, h1, h2⟩ := h
            rw [hm, ← hn, hcs]
            exact ⟨h1, h2.symm⟩))
          have hcv2 : (convert 22 9 (.slice (some ⟨M.heap.size, 0, none⟩) m m)).run Tryd.prog (M.alloc (.cells cs 5)).drew = .ok (.string X) (M.alloc (.cells cs 5)).drew := by
            have h := conv_rb M.drew (encodeRune r)
            rw [← hcs, ← hm, ← hX] at h
            exact h
          have hcvq := HCV.out M.drew (HMB.out.drew)
          have hcva := HCV.out (M.alloc (.cells cs 5)).drew ((HMB.out.alloc HMB.out.size _).drew)
          rw [← hY] at hcvq hcva
          have HXY := Lib.hid (show (X.toList == Y.toList) = true → encodeRune r = L.take 2 from fun h => by
            have e := eq_of_beq h
            rw [Lib.toList_data, Lib.toList_data, hX, hY] at e
            exact e)
          have HXN := Lib.hid (show (X.toList == Y.toList) = false → ¬ encodeRune r = L.take 2 from fun h e => by
            rw [Lib.toList_data, Lib.toList_data, hX, hY, e] at h
            simp at h)
          have HIS := Lib.hid his
          have hkL := HN.out
          have HKL := Lib.hid (show 2 ≤ L.length by omega)
          clear hX hY hm hcs his hkL
          go_region_with (first | (go_at_call 59; with_reducible (refine (HI.out _).mono ?_); rintro e w1 ⟨rfl, rfl⟩) | (go_at_call 60; with_reducible (refine (HRB.out _).mono ?_); rintro e w1 ⟨rfl, rfl⟩))
          all_goals have HME := Lib.hid ((HMW.out.alloc hMsz (.cells cs 5)).drew)
          all_goals go_wp2
          all_goals
            rename_i hxy
            first
              | (have HHP := Lib.hid (hit_post HIS.out (HXY.out hxy) HKL.out (by omega) w _ HME.out)
                 go_ret2
                 exact HHP.out)
              | (have HNX := Lib.hid (miss_next HRK.out (fun h => HXN.out hxy h.2) HK.out)
                 go_roundw
                 case rel => exact ⟨3, by omega, by omega, by go_num, HME.out, HNX.out⟩
                 case measure => simp [RowKit.intOf])
      · have hkn' : (3 : Int) ≤ n := by omega
        obtain ⟨d0, x0, y0⟩ := HD.out 0 (by omega)
        obtain ⟨d1, x1, y1⟩ := HD.out 1 (by omega)
        obtain ⟨d2, x2, y2⟩ := HD.out 2 (by omega)
        rw [Nat.add_zero] at d0
        obtain ⟨b0, hb0⟩ : ∃ b, b = Ut.bI L 0 := ⟨_, rfl⟩
        rw [← hb0] at d0 x0 y0
        obtain ⟨b1, hb1⟩ : ∃ b, b = Ut.bI L 1 := ⟨_, rfl⟩
        rw [← hb1] at d1 x1 y1
        obtain ⟨b2, hb2⟩ : ∃ b, b = Ut.bI L 2 := ⟨_, rfl⟩
        rw [← hb2] at d2 x2 y2
        obtain ⟨r, hr⟩ : ∃ r : Int, r = ((b0 - 224) * 4096 + (b1 - 128) * 64 + b2 - 128) := ⟨_, rfl⟩
        have HRK := Lib.hid (show Ut.rk L 3 = r from by rw [hr]; show (Ut.bI L 0 - 224) * 4096 + (Ut.bI L 1 - 128) * 64 + Ut.bI L 2 - 128 = _; rw [← hb0, ← hb1, ← hb2])
        clear hb0 hb1 hb2
        go_wp2
        go_quiet (fail)
        go_wp2
        obtain ⟨M, hM⟩ : ∃ M, M = wr.drewN nq := ⟨_, rfl⟩
        rw [← hM]
        have hMs : M.heap.size = wr.heap.size := by rw [hM]; rfl
        have HMB := Lib.hid (show Below wr.heap.size wr M by rw [hM]; exact below_drewN (Below.refl _ _) _)
        clear hM
        rw [← hr]
        have HMW := Lib.hid (HB.out.trans (HMB.out.mono hsz))
        have hMsz := HMW.out.size
        clear hr hMs d0 d1 d2
        cases his : Ut.isR r
        · have HI := Lib.hid (fun q => (risRune_any r (M.drewN q)).mono fun e w' h => (show e = .returned (.bool false) ∧ ∃ m, w' = M.drewN m from ⟨h.1.trans (ret_bool his), q, h.2.symm⟩))
          have HNX := Lib.hid (miss_next HRK.out (fun h => by rw [his] at h; cases h.1) HK.out)
          clear his
          go_quiet ((go_at_call 59; exact HI.out _))
          go_wp2
          go_roundw
          case rel => exact ⟨4, by omega, by omega, by go_num, below_drewN HMW.out _, HNX.out⟩
          case measure => simp [RowKit.intOf]
        · have HI := Lib.hid (fun W => (risRune_any r W).mono fun e w' h => (show e = .returned (.bool true) ∧ W = w' from ⟨h.1.trans (ret_bool his), h.2⟩))
          obtain ⟨X, hX⟩ : ∃ X : ByteArray, X = ⟨⟨encodeRune r⟩⟩ := ⟨_, rfl⟩
          obtain ⟨Y, hY⟩ : ∃ Y : ByteArray, Y = ⟨⟨L.take 3⟩⟩ := ⟨_, rfl⟩
          obtain ⟨m, hm⟩ : ∃ m, m = (encodeRune r).length := ⟨_, rfl⟩
          obtain ⟨cs, hcs⟩ : ∃ cs, cs = (bytesV (encodeRune r)).toArray := ⟨_, rfl⟩
          have HRB := Lib.hid (fun W => (rbytes_any r his W).mono fun e w' h => (show e = .returned (.slice (some ⟨W.heap.size, 0, none⟩) m m) ∧ W.alloc (.cells cs 5) = w' from by
            obtain ⟨n, hn, h1, h2⟩ := h
            rw [hm, ← hn, hcs]
            exact ⟨h1, h2.symm⟩))
          have hcv2 : (convert 22 9 (.slice (some ⟨M.heap.size, 0, none⟩) m m)).run Tryd.prog (M.alloc (.cells cs 5)).drew = .ok (.string X) (M.alloc (.cells cs 5)).drew := by
            have h := conv_rb M.drew (encodeRune r)
            rw [← hcs, ← hm, ← hX] at h
            exact h
          have hcvq := HCV.out M.drew (HMB.out.drew)
          have hcva := HCV.out (M.alloc (.cells cs 5)).drew ((HMB.out.alloc HMB.out.size _).drew)
          rw [← hY] at hcvq hcva
          have HXY := Lib.hid (show (X.toList == Y.toList) = true → encodeRune r = L.take 3 from fun h => by
            have e := eq_of_beq h
            rw [Lib.toList_data, Lib.toList_data, hX, hY] at e
            exact e)
          have HXN := Lib.hid (show (X.toList == Y.toList) = false → ¬ encodeRune r = L.take 3 from fun h e => by
            rw [Lib.toList_data, Lib.toList_data, hX, hY, e] at h
            simp at h)
          have HIS := Lib.hid his
          have hkL := HN.out
          have HKL := Lib.hid (show 3 ≤ L.length by omega)
          clear hX hY hm hcs his hkL
          go_region_with (first | (go_at_call 59; with_reducible (refine (HI.out _).mono ?_); rintro e w1 ⟨rfl, rfl⟩) | (go_at_call 60; with_reducible (refine (HRB.out _).mono ?_); rintro e w1 ⟨rfl, rfl⟩))
          all_goals have HME := Lib.hid ((HMW.out.alloc hMsz (.cells cs 5)).drew)
          all_goals go_wp2
          all_goals
            rename_i hxy
            first
              | (have HHP := Lib.hid (hit_post HIS.out (HXY.out hxy) HKL.out (by omega) w _ HME.out)
                 go_ret2
                 exact HHP.out)
              | (have HNX := Lib.hid (miss_next HRK.out (fun h => HXN.out hxy h.2) HK.out)
                 go_roundw
                 case rel => exact ⟨4, by omega, by omega, by go_num, HME.out, HNX.out⟩
                 case measure => simp [RowKit.intOf])
      · have hkn' : (4 : Int) ≤ n := by omega
        obtain ⟨d0, x0, y0⟩ := HD.out 0 (by omega)
        obtain ⟨d1, x1, y1⟩ := HD.out 1 (by omega)
        obtain ⟨d2, x2, y2⟩ := HD.out 2 (by omega)
        obtain ⟨d3, x3, y3⟩ := HD.out 3 (by omega)
        rw [Nat.add_zero] at d0
        obtain ⟨b0, hb0⟩ : ∃ b, b = Ut.bI L 0 := ⟨_, rfl⟩
        rw [← hb0] at d0 x0 y0
        obtain ⟨b1, hb1⟩ : ∃ b, b = Ut.bI L 1 := ⟨_, rfl⟩
        rw [← hb1] at d1 x1 y1
        obtain ⟨b2, hb2⟩ : ∃ b, b = Ut.bI L 2 := ⟨_, rfl⟩
        rw [← hb2] at d2 x2 y2
        obtain ⟨b3, hb3⟩ : ∃ b, b = Ut.bI L 3 := ⟨_, rfl⟩
        rw [← hb3] at d3 x3 y3
        obtain ⟨r, hr⟩ : ∃ r : Int, r = ((b0 - 240) * 262144 + (b1 - 128) * 4096 + (b2 - 128) * 64 + b3 - 128) := ⟨_, rfl⟩
        have HRK := Lib.hid (show Ut.rk L 4 = r from by rw [hr]; show (Ut.bI L 0 - 240) * 262144 + (Ut.bI L 1 - 128) * 4096 + (Ut.bI L 2 - 128) * 64 + Ut.bI L 3 - 128 = _; rw [← hb0, ← hb1, ← hb2, ← hb3])
        clear hb0 hb1 hb2 hb3
        go_wp2
        go_quiet (fail)
        go_wp2
        obtain ⟨M, hM⟩ : ∃ M, M = wr.drewN nq := ⟨_, rfl⟩
        rw [← hM]
        have hMs : M.heap.size = wr.heap.size := by rw [hM]; rfl
        have HMB := Lib.hid (show Below wr.heap.size wr M by rw [hM]; exact below_drewN (Below.refl _ _) _)
        clear hM
        rw [← hr]
        have HMW := Lib.hid (HB.out.trans (HMB.out.mono hsz))
        have hMsz := HMW.out.size
        clear hr hMs d0 d1 d2 d3
        cases his : Ut.isR r
        · have HI := Lib.hid (fun q => (risRune_any r (M.drewN q)).mono fun e w' h => (show e = .returned (.bool false) ∧ ∃ m, w' = M.drewN m from ⟨h.1.trans (ret_bool his), q, h.2.symm⟩))
          have HNX := Lib.hid (miss_next HRK.out (fun h => by rw [his] at h; cases h.1) HK.out)
          clear his
          go_quiet ((go_at_call 59; exact HI.out _))
          go_wp2
          go_roundw
          case rel => exact ⟨5, by omega, by omega, by go_num, below_drewN HMW.out _, HNX.out⟩
          case measure => simp [RowKit.intOf]
        · have HI := Lib.hid (fun W => (risRune_any r W).mono fun e w' h => (show e = .returned (.bool true) ∧ W = w' from ⟨h.1.trans (ret_bool his), h.2⟩))
          obtain ⟨X, hX⟩ : ∃ X : ByteArray, X = ⟨⟨encodeRune r⟩⟩ := ⟨_, rfl⟩
          obtain ⟨Y, hY⟩ : ∃ Y : ByteArray, Y = ⟨⟨L.take 4⟩⟩ := ⟨_, rfl⟩
          obtain ⟨m, hm⟩ : ∃ m, m = (encodeRune r).length := ⟨_, rfl⟩
          obtain ⟨cs, hcs⟩ : ∃ cs, cs = (bytesV (encodeRune r)).toArray := ⟨_, rfl⟩
          have HRB := Lib.hid (fun W => (rbytes_any r his W).mono fun e w' h => (show e = .returned (.slice (some ⟨W.heap.size, 0, none⟩) m m) ∧ W.alloc (.cells cs 5) = w' from by
            obtain ⟨n, hn, h1, h2⟩ := h
            rw [hm, ← hn, hcs]
            exact ⟨h1, h2.symm⟩))
          have hcv2 : (convert 22 9 (.slice (some ⟨M.heap.size, 0, none⟩) m m)).run Tryd.prog (M.alloc (.cells cs 5)).drew = .ok (.string X) (M.alloc (.cells cs 5)).drew := by
            have h := conv_rb M.drew (encodeRune r)
            rw [← hcs, ← hm, ← hX] at h
            exact h
          have hcvq := HCV.out M.drew (HMB.out.drew)
          have hcva := HCV.out (M.alloc (.cells cs 5)).drew ((HMB.out.alloc HMB.out.size _).drew)
          rw [← hY] at hcvq hcva
          have HXY := Lib.hid (show (X.toList == Y.toList) = true → encodeRune r = L.take 4 from fun h => by
            have e := eq_of_beq h
            rw [Lib.toList_data, Lib.toList_data, hX, hY] at e
            exact e)
          have HXN := Lib.hid (show (X.toList == Y.toList) = false → ¬ encodeRune r = L.take 4 from fun h e => by
            rw [Lib.toList_data, Lib.toList_data, hX, hY, e] at h
            simp at h)
          have HIS := Lib.hid his
          have hkL := HN.out
          have HKL := Lib.hid (show 4 ≤ L.length by omega)
          clear hX hY hm hcs his hkL
          go_region_with (first | (go_at_call 59; with_reducible (refine (HI.out _).mono ?_); rintro e w1 ⟨rfl, rfl⟩) | (go_at_call 60; with_reducible (refine (HRB.out _).mono ?_); rintro e w1 ⟨rfl, rfl⟩))
          all_goals have HME := Lib.hid ((HMW.out.alloc hMsz (.cells cs 5)).drew)
          all_goals go_wp2
          all_goals
            rename_i hxy
            first
              | (have HHP := Lib.hid (hit_post HIS.out (HXY.out hxy) HKL.out (by omega) w _ HME.out)
                 go_ret2
                 exact HHP.out)
              | (have HNX := Lib.hid (miss_next HRK.out (fun h => HXN.out hxy h.2) HK.out)
                 go_roundw
                 case rel => exact ⟨5, by omega, by omega, by go_num, HME.out, HNX.out⟩
                 case measure => simp [RowKit.intOf])
    · have HNO := Lib.hid (fun w' hb => none_post (L := L) (k := k) (by have := HN.out; omega) HK.out w w' hb)
      by_cases hk4 : k ≤ 4
      · have q1 : ¬ (k : Int) ≤ n := by omega
        have q2 : (k : Int) ≤ 4 := by omega
        go_wp2
        go_ret2
        exact HNO.out _ HB.out
      · have q2 : ¬ (k : Int) ≤ 4 := by omega
        go_wp2
        go_ret2
        exact HNO.out _ HB.out
end Go.Proofs.YtdeihlbnlogjcaaDoor
