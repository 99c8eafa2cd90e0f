/- text's Offset. -/
import Derived.Test.YtdeihlbnlogjcaaDoorTexD
import Derived.Test.YtdeihlbnlogjcaaDoorUtfT
namespace Go.Proofs.YtdeihlbnlogjcaaDoor
open Go.RowKit Go.Lib Go.Shelf
set_option maxRecDepth 100000
set_option linter.unusedVariables false

theorem offA_bound (L : List UInt8) (n : Int) : 0 ≤ offA L n ∧ offA L n ≤ L.length := by
  unfold offA
  split
  · rename_i h
    cases hx : Ut.offF 0 0 (Ut.runesF L) n with
    | none => exact ⟨by simp, by simp⟩
    | some x =>
      have := off_facts L h n x hx
      exact ⟨this.2.1, this.2.2.1⟩
  · exact ⟨by omega, by omega⟩
set_option maxHeartbeats 600000 in
theorem toffset_any (s : ByteArray) (line char : Int) (w : World) (hs : s.size ≤ 1099511627) (hl : (Lit.int .i64 line).wf = true) (hT : Tabs w) (hM : MaxL w) :
    Calls Tryd.prog 40 #[.string s, .int .i64 line, .int .i64 char] w fun e w' => e = .returned (.tuple #[.int .i64 (tOffA s.data.toList line char), .int .i64 (tOffK s.data.toList line char)]) ∧ Below w.heap.size w w' := by
  have hL : s.data.toList.length = s.size := by simp
  have HCL := Lib.hid (count_le s.data.toList)
  go_enter Tryd.func40, Tryd.ntmps40
  go_wp2_with fail
  refine (isText_any s w (by omega) hT).mono ?_
  rintro e w1 ⟨rfl, hb1⟩
  have HB1 := Lib.hid hb1
  clear hb1
  cases hv : validD s.data.toList
  · have HV := Lib.hid hv
    clear hv
    go_wp2
    go_ret2
    exact ⟨by simp [tOffA, tOffK, HV.out], HB1.out⟩
  · have HV := Lib.hid hv
    clear hv
    obtain ⟨n, hn⟩ : ∃ n, n = Lib.countByte s.data.toList 10 := ⟨_, rfl⟩
    have HN := Lib.hid hn
    have HLN := Lib.hid (fun W => lines_any s (by omega) (by have := HCL.out; omega) W)
    rw [← hn] at HLN
    clear hn
    by_cases h0 : line < 0
    · go_wp2
      go_ret2
      exact ⟨by simp [tOffA, tOffK, HV.out]; omega, HB1.out⟩
    · by_cases h1 : line ≥ (n : Int) + 1
      · go_wp2_with (go_at_call 42; with_reducible (refine (HLN.out _).mono ?_); rintro e w2 ⟨rfl, rfl⟩)
        have HX := Lib.hid (show tOffA s.data.toList line char = 0 ∧ tOffK s.data.toList line char = 70 by
          have hnn := HN.out
          have hno : ¬ (line ≤ (Lib.countByte s.data.toList 10 : Int)) := by omega
          unfold tOffA tOffK
          rw [if_neg (fun h => hno h.2.2.1), if_pos HV.out, if_neg (fun h => hno h.2.1)]
          exact ⟨rfl, rfl⟩)
        go_ret2
        exact ⟨by rw [HX.out.1, HX.out.2]; rfl, HB1.out⟩
      · obtain ⟨m, rfl⟩ : ∃ m : Nat, line = m := ⟨line.toNat, by omega⟩
        have hmn : m ≤ n := by omega
        have hmb : m ≤ 1099511627 := by have := HN.out; have := HCL.out; omega
        have HLE := Lib.hid (show ∀ k, k ≤ m → startN k s.data.toList ≤ s.size ∧ Lib.countByte (s.data.toList.drop (startN k s.data.toList)) 10 + k = n from fun k hk => by
          have h := start_spec s.data.toList k (by have := HN.out; omega)
          rw [hL, ← HN.out] at h
          exact h)
        clear hL
        go_wp2_with (go_at_call 42; with_reducible (refine (HLN.out _).mono ?_); rintro e w2 ⟨rfl, rfl⟩)
        go_loopw [8, 26] (fun a i wr => ∃ k : Nat, k ≤ m ∧ i = .int .i64 k ∧ (∃ S : Nat, a = .int .i64 S ∧ RowKit.Hid (S = startN k s.data.toList)) ∧ RowKit.Hid (Below w.heap.size w wr)) (fun _ i _ => m - (RowKit.intOf i).toNat)
        case atStart => exact ⟨0, by omega, rfl, ⟨0, rfl, rfl⟩, HB1.out⟩
        case round =>
          obtain ⟨k, hk, rfl, ⟨S, rfl, HS⟩, HB⟩ := hrel
          have hS := HS.out
          have hSle := (HLE.out k hk).1
          rw [← hS] at hSle
          by_cases hkm : k < m
          · have hki : (k : Int) < m := by omega
            have HIX := Lib.hid (fun W => (index_lf (s.extract S s.size) W))
            have hds := drop_str s S hSle
            have hcn := (HLE.out k hk).2
            rw [← hS] at hcn
            obtain ⟨j, hj⟩ : ∃ j : Nat, Lib.indexByte (s.data.toList.drop S) 10 = j ∧ S + (j + 1) = startN (k + 1) s.data.toList ∧ S + (j + 1) ≤ s.size := by
              have hlen : s.data.toList.length = s.size := by simp
              rcases index_spec (s.data.toList.drop S) with ⟨a1, a2⟩ | ⟨i, a1, a2, a3, -⟩
              · omega
              · rw [List.length_drop, hlen] at a2
                refine ⟨i, a1, ?_, by omega⟩
                show _ = startN k s.data.toList + (Lib.indexByte (s.data.toList.drop (startN k s.data.toList)) 10 + 1).toNat
                rw [← hS, a1]
                omega
            obtain ⟨hj1, hj2, hj3⟩ := hj
            rw [hds, hj1] at HIX
            have HIX2 := Lib.hid (fun W => (HIX.out W).mono fun e w' h => (show e = .returned (.int .i64 (j : Int)) ∧ W = w' from ⟨h.1, h.2.symm⟩))
            have HJ := Lib.hid hj2
            clear hds hcn hj1 hj2 hS HIX
            go_wp2_with (go_at_call 63; with_reducible (refine (HIX2.out _).mono ?_); rintro e w2 ⟨rfl, rfl⟩)
            go_roundw
            case rel => exact ⟨k + 1, by omega, by go_num, ⟨S + (j + 1), by go_num, HJ.out⟩, HB.out⟩
            case measure => simp [RowKit.intOf]; omega
          · have hkm2 : k = m := by omega
            have hki : ¬ (k : Int) < m := by omega
            have hds := drop_str s S hSle
            have hes : (s.extract S s.size).size ≤ s.size := by simp
            have HM1 := Lib.hid (maxL_below hM HB.out (by have := hM; exact maxL_lt hM))
            have HCU := Lib.hid (cut_lf (s.extract S s.size) (by omega) wr HM1.out)
            rw [hds] at HCU
            obtain ⟨O, hO⟩ : ∃ O : ByteArray, O = ⟨(Lib.cut (s.data.toList.drop S) [10]).1.toArray⟩ := ⟨_, rfl⟩
            obtain ⟨O2, hO2⟩ : ∃ O : ByteArray, O = ⟨(Lib.cut (s.data.toList.drop S) [10]).2.1.toArray⟩ := ⟨_, rfl⟩
            obtain ⟨b3, hb3⟩ : ∃ b, b = (Lib.cut (s.data.toList.drop S) [10]).2.2 := ⟨_, rfl⟩
            rw [← hO, ← hO2, ← hb3] at HCU
            have HOL := Lib.hid (show O.data.toList = ownL s.data.toList m by
              rw [hO, ← hkm2]
              unfold ownL
              rw [← hS])
            have hOs : O.size ≤ s.size := own_size hO hSle
            have hSi : (S : Int) ≤ s.size := by omega
            have hSi2 : ¬ (s.size : Int) < S := by omega
            have hSn : ¬ s.size < S := by omega
            have HKM := Lib.hid hkm2
            clear hO hO2 hb3 hds hS hkm2
            go_wp2_with (go_at_call 64; with_reducible (refine HCU.out.mono ?_); rintro e w3 ⟨rfl, q, rfl⟩)
            have HB3 := Lib.hid (below_drewN HB.out q)
            refine (offset_any O char (wr.drewN q) (by omega) (Utf8Tabs_below hT HB3.out)).mono ?_
            rintro e w4 h
            obtain ⟨rfl, hb4⟩ := h.one
            rw [HOL.out]
            have HB4 := Lib.hid (HB3.out.trans (hb4.mono HB3.out.size))
            have hab := offA_bound (ownL s.data.toList m) char
            have hol : (ownL s.data.toList m).length = O.size := by rw [← HOL.out]; simp
            rw [hol] at hab
            obtain ⟨a, ha⟩ : ∃ a, a = offA (ownL s.data.toList m) char := ⟨_, rfl⟩
            obtain ⟨kk, hkk⟩ : ∃ a, a = offK (ownL s.data.toList m) char := ⟨_, rfl⟩
            have HA := Lib.hid (And.intro ha hkk)
            rw [← ha] at hab
            rw [← ha, ← hkk]
            obtain ⟨ha0, ha1⟩ := hab
            have HMN := Lib.hid (show (m : Int) ≤ (Lib.countByte s.data.toList 10 : Int) by have := HN.out; omega)
            clear ha hkk hol hb4 h
            by_cases hk0 : kk = 0
            · have HF := Lib.hid (show tOffA s.data.toList m char = S + a ∧ tOffK s.data.toList m char = 0 by
                unfold tOffA tOffK
                rw [Int.toNat_natCast, ← HA.out.2, ← HA.out.1, ← HKM.out, ← HS.out, HKM.out, if_pos ⟨HV.out, by omega, HMN.out, hk0⟩, if_pos HV.out, if_pos ⟨by omega, HMN.out, hk0⟩]
                exact ⟨rfl, rfl⟩)
              go_wp2
              go_ret2
              exact ⟨by rw [HF.out.1, HF.out.2]; rfl, HB4.out⟩
            · have HF := Lib.hid (show tOffA s.data.toList m char = 0 ∧ tOffK s.data.toList m char = 70 by
                unfold tOffA tOffK
                rw [Int.toNat_natCast, ← HA.out.2, if_neg (fun h => hk0 h.2.2.2), if_pos HV.out, if_neg (fun h => hk0 h.2.2)]
                exact ⟨rfl, rfl⟩)
              go_wp2
              go_ret2
              exact ⟨by rw [HF.out.1, HF.out.2]; rfl, HB4.out⟩
end Go.Proofs.YtdeihlbnlogjcaaDoor
