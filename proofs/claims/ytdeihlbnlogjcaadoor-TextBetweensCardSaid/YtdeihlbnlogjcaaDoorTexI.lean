/- alive of layer 7; the walk of TextLines. -/
import Derived.Test.YtdeihlbnlogjcaaDoorTexH
namespace Go.Proofs.YtdeihlbnlogjcaaDoor
open Go.RowKit Go.Lib Go.Shelf
set_option maxRecDepth 100000
set_option linter.unusedVariables false

def al7E : ET := ⟨0, 1, 1, 1, ⟨#[88]⟩⟩
theorem al7_a : tOffA [97, 10, 240, 159, 152, 128, 98] 1 2 = 6 ∧ tOffK [97, 10, 240, 159, 152, 128, 98] 1 2 = 0 := by decide +kernel
theorem al7_b : (apAS ⟨#[97, 98, 10, 99, 100]⟩ [al7E]).data = #[97, 88, 100] ∧ apAE ⟨#[97, 98, 10, 99, 100]⟩ [al7E] = 0 := by decide +kernel
theorem al7_ok : EdOk al7E := ⟨⟨rfl, rfl, rfl, rfl⟩, by decide⟩
set_option maxHeartbeats 600000 in
theorem alive7_any (w : World) (hT : Tabs w) (hM : MaxL w) : Calls Tryd.prog 39 #[] w (TruePost w) := by
  have HO : RowKit.Hid (Calls Tryd.prog 40 #[.string ⟨#[97, 10, 240, 159, 152, 128, 98]⟩, .int .i64 1, .int .i64 2] w fun e w' => e = .returned (.tuple #[.int .i64 6, .int .i64 0]) ∧ Below w.heap.size w w') := by
    have h := toffset_any ⟨#[97, 10, 240, 159, 152, 128, 98]⟩ 1 2 w (by decide) rfl hT hM
    rw [show (⟨#[97, 10, 240, 159, 152, 128, 98]⟩ : ByteArray).data.toList = [97, 10, 240, 159, 152, 128, 98] from rfl, al7_a.1, al7_a.2] at h
    exact Lib.hid h
  have hml := Lib.hid (maxL_lt hM)
  go_enter Tryd.func39, Tryd.ntmps39
  go_wp2_with fail
  refine HO.out.mono ?_
  rintro e w1 ⟨rfl, hb1⟩
  have HB1 := Lib.hid hb1
  have hs1 := hb1.size
  clear hb1
  have HA : RowKit.Hid (Calls Tryd.prog 48 #[.string ⟨#[97, 98, 10, 99, 100]⟩, .slice (some ⟨w1.heap.size, 0, none⟩) 1 1] (w1.alloc (.cells #[.int .i64 0, .int .i64 1, .int .i64 1, .int .i64 1, .string ⟨#[88]⟩] 60)) fun e w' => e = .returned (.tuple #[.string ⟨#[97, 88, 100]⟩, .int .i64 0]) ∧ Below w1.heap.size w1 w') := by
    have hbA := (Below.refl w1.heap.size w1).alloc (Nat.le_refl _) (.cells #[.int .i64 0, .int .i64 1, .int .i64 1, .int .i64 1, .string ⟨#[88]⟩] 60)
    have hbW := HB1.out.trans (hbA.mono hs1)
    have h := apply_any (.slice (some ⟨w1.heap.size, 0, none⟩) 1 1) [al7E] ⟨#[97, 98, 10, 99, 100]⟩ (w1.alloc (.cells #[.int .i64 0, .int .i64 1, .int .i64 1, .int .i64 1, .string ⟨#[88]⟩] 60))
      (by
        have := Rd.lit w1 #[.int .i64 0, .int .i64 1, .int .i64 1, .int .i64 1, .string ⟨#[88]⟩] 60 5 1 1 rfl (Nat.le_refl _)
        rw [World.size_alloc]
        exact this)
      (by decide) (fun x hx => by rw [List.mem_singleton.1 hx]; exact al7_ok) (by decide) (Utf8Tabs_below hT hbW) (maxL_below hM hbW hml.out)
    have e : apAS ⟨#[97, 98, 10, 99, 100]⟩ [al7E] = ⟨#[97, 88, 100]⟩ := by
      have := al7_b.1
      generalize apAS ⟨#[97, 98, 10, 99, 100]⟩ [al7E] = X at this ⊢
      cases X
      simp only at this
      rw [this]
    rw [e, al7_b.2] at h
    exact Lib.hid (h.mono fun e w' h => ⟨h.1, BRe h.2⟩)
  go_wp2_with fail
  refine HA.out.mono ?_
  rintro e w2 ⟨rfl, hb2⟩
  have HB2 := Lib.hid (HB1.out.trans (hb2.mono hs1))
  clear hb2
  go_wp2
  go_ret
  exact ⟨rfl, HB2.out⟩
theorem count_app (s t : ByteArray) : Lib.countByte (s ++ t).data.toList 10 = Lib.countByte s.data.toList 10 + Lib.countByte t.data.toList 10 := by
  unfold Lib.countByte
  rw [ByteArray.data_append, Array.toList_append, List.count_append]
theorem count_step (s : ByteArray) (k : Nat) (h : k < s.size) : Lib.countByte (s.data.toList.take (k + 1)) 10 = Lib.countByte (s.data.toList.take k) 10 + (if s[k] = 10 then 1 else 0) := by
  have hk : k < s.data.toList.length := by simpa using h
  unfold Lib.countByte
  rw [List.take_succ_eq_append_getElem hk, List.count_append, List.count_singleton, show s.data.toList[k] = s[k] from rfl]
  by_cases hc : s[k] = 10 <;> simp [hc]
set_option maxHeartbeats 600000 in
theorem textLines_walk (s t : ByteArray) (w : World) (hs : s.size ≤ 140737488351232) (ht : t.size ≤ 140737488351232) (hT : Tabs w) (hM : MaxL w) : Calls Tryd.prog 17 #[.string s, .string t] w (TruePost w) := by
  obtain ⟨n, hn⟩ : ∃ n, n = Lib.countByte s.data.toList 10 := ⟨_, rfl⟩
  obtain ⟨m, hm⟩ : ∃ n, n = Lib.countByte t.data.toList 10 := ⟨_, rfl⟩
  have hns : n ≤ s.size := by rw [hn]; exact Nat.le_trans (count_le _) (by simp)
  have hmt : m ≤ t.size := by rw [hm]; exact Nat.le_trans (count_le _) (by simp)
  have HLS := Lib.hid (fun W => lines_any s (by omega) (by rw [← hn]; omega) W)
  have HLT := Lib.hid (fun W => lines_any t (by omega) (by rw [← hm]; omega) W)
  have HLST := Lib.hid (fun W => lines_any (s ++ t) (by rw [ByteArray.size_append]; omega) (by rw [count_app, ← hn, ← hm, ByteArray.size_append]; omega) W)
  rw [← hn] at HLS
  rw [← hm] at HLT
  rw [count_app, ← hn, ← hm] at HLST
  have HN := Lib.hid hn
  clear hn hm
  go_enter Tryd.func17, Tryd.ntmps17
  go_wp2_with fail
  refine (alive7_any w hT hM).mono ?_
  rintro e w1 ⟨rfl, hb1⟩
  have HB1 := Lib.hid hb1
  clear hb1
  go_wp2
  go_loopw [5, 6] (fun a i wr => ∃ k c : Nat, k ≤ s.size ∧ c ≤ k ∧ a = .int .i64 ((c : Int) + 1) ∧ i = .int .i64 k ∧ RowKit.Hid (c = Lib.countByte (s.data.toList.take k) 10) ∧ RowKit.Hid (Below w.heap.size w wr)) (fun _ i _ => s.size - (RowKit.intOf i).toNat)
  case atStart => exact ⟨0, 0, by omega, by omega, rfl, rfl, rfl, HB1.out⟩
  case round =>
    obtain ⟨k, c, hk, hc, rfl, rfl, HC, HB⟩ := hrel
    by_cases hkn : k < s.size
    · have hki : (k : Int) < s.size := by omega
      have HST := Lib.hid (count_step s k hkn)
      cases hb : ((s[k].toNat : Int) == 10)
      · have HX := Lib.hid (show ¬ s[k] = 10 from fun e => by rw [e] at hb; exact absurd hb (by decide))
        go_wp2
        go_roundw
        case rel => exact ⟨k + 1, c, by omega, by omega, rfl, by go_num, by rw [HST.out, if_neg HX.out, ← HC.out]; rfl, HB.out⟩
        case measure => simp [RowKit.intOf]; omega
      · have HX := Lib.hid (show s[k] = 10 from UInt8.toNat_inj.1 (by have h := beq_iff_eq.1 hb; have h10 : (10 : UInt8).toNat = 10 := rfl; omega))
        go_wp2
        go_roundw
        case rel => exact ⟨k + 1, c + 1, by omega, by omega, by go_num, by go_num, by rw [HST.out, if_pos HX.out, ← HC.out]; rfl, HB.out⟩
        case measure => simp [RowKit.intOf]; omega
    · have hki : ¬ (k : Int) < s.size := by omega
      have hcn : c = n := by
        rw [HC.out, HN.out, List.take_of_length_le (by simp; omega)]
      subst hcn
      go_wp2_with (first | (go_at_call 42; with_reducible (first | refine (HLS.out _).mono ?_ | refine (HLT.out _).mono ?_ | refine (HLST.out _).mono ?_); rintro e w2 ⟨rfl, rfl⟩))
      go_ret
      refine ⟨?_, HB.out⟩
      show Ending.returned (.bool ((c : Int) + m + 1 == c + 1 + (m + 1) - 1)) = _
      rw [show ((c : Int) + m + 1 == c + 1 + (m + 1) - 1) = true by simp; omega]
end Go.Proofs.YtdeihlbnlogjcaaDoor
