/- The walk of UtfFront. -/
import Derived.Test.YtdeihlbnlogjcaaDoorUtfJ
import Derived.Test.YtdeihlbnlogjcaaDoorUtfP
namespace Go.Proofs.YtdeihlbnlogjcaaDoor
open Go.RowKit Go.Lib Go.Shelf
set_option maxRecDepth 100000
set_option linter.unusedVariables false

theorem front_no (L : List UInt8) (m : Nat) (hm : 1 ≤ m) (hl : Ut.validP L + m ≤ L.length) : validD ((L.drop (Ut.validP L)).take m) = false := by
  obtain ⟨h1, h2, h3⟩ := Ut.validP_front L.length L (Nat.le_refl _)
  have hne : (L.drop (Ut.validP L)).take m ≠ [] := by
    intro e
    have := congrArg List.length e
    simp at this
    omega
  refine Ut.validD_no _ hne fun ok => h3 (by omega) ?_
  have hs := Ut.dec_split _ hne ok
  have hi := Ut.dec_isR _ ok
  have e := List.take_append_drop m (L.drop (Ut.validP L))
  rw [hs, List.append_assoc] at e
  rw [← e]
  exact (Ut.dec_enc _ hi _).2
theorem Rd.part {w : World} {B g o c : Nat} {L : List UInt8} (h : ∀ j, j < L.length → w.cell? ⟨g, o + j, none⟩ = (bytesV L)[j]?) (hg : g < B) (a k : Nat) (hk : a + k ≤ L.length) (hc : k ≤ c) : Rd w B 1 (.slice (some ⟨g, o + a, none⟩) k c) k (bytesV ((L.drop a).take k)) := by
  have hl : ((L.drop a).take k).length = k := by simp; omega
  refine ⟨by rw [bytesV_len, hl, Nat.mul_one], _, _, rfl, hc, fun _ => ⟨g, o + a, rfl, hg, fun j hj => ?_⟩⟩
  rw [Nat.add_assoc, h (a + j) (by omega)]
  unfold bytesV
  rw [List.getElem?_map, List.getElem?_map, List.getElem?_take, if_pos (by omega), List.getElem?_drop]
inductive NoneV : Value → Nat → Prop where
  | nil : NoneV (.slice none 0 0) 0
  | some (ad : Addr) {c : Nat} : NoneV (.slice (some ad) 0 c) c
set_option maxHeartbeats 2000000 in
theorem utfFront_none (v : Value) (w : World) (c : Nat) (h0 : NoneV v c) (hv : ArgB w v []) (hT : Tabs w) : Calls Tryd.prog 9 #[v] w (TruePost w) := by
  cases h0
  all_goals
    have HV := Lib.hid hv
    clear hv
    go_enter Tryd.func9, Tryd.ntmps9
    go_wp2_with fail
    refine (alive_any w hT).mono ?_
    rintro e w1 ⟨rfl, hb1⟩
    have HB1 := Lib.hid hb1
    have HT1 := Lib.hid (Utf8Tabs_below hT hb1)
    have hs1 := hb1.size
    have HV1 := Lib.hid (show ArgB w1 _ [] from ⟨(HV.out.1.below hb1).more hb1.size, HV.out.2⟩)
    clear hb1
    go_wp2_with fail
    refine (copyBytes_any _ [] w1 HV1.out (by simp)).mono ?_
    rintro e w2 ⟨v2, rfl, ho, hb2⟩
    have HO2 := Lib.hid (Rd.of_own ho.out.2)
    have HB2 := Lib.hid (HB1.out.trans (hb2.mono hs1))
    have HT2 := Lib.hid (Utf8Tabs_below HT1.out hb2)
    have hs2 := hb2.size
    clear hb2 ho
    go_wp2_with fail
    refine (valid_any v2 [] w2 _ (Nat.le_refl _) HO2.out (by simp) HT2.out).mono ?_
    rintro e w3 ⟨h, hb3⟩
    rw [Ut.validP_nil] at h
    subst h
    have HB3 := Lib.hid (HB2.out.trans (hb3.mono (by omega)))
    have HT3 := Lib.hid (Utf8Tabs_below HT2.out hb3)
    clear hb3
    have hcv := fun A c => conv_rd (P := Tryd.prog) (l := []) (Rd.nil w3 0 1 A c) 22 9 5 Tryd.underlying22 Tryd.underlying5 Tryd.underlying9
    go_wp2_with fail
    refine (runes_any vs ⟨⟨[]⟩⟩ w3 (by show 0 ≤ _; omega) HT3.out).mono ?_
    rintro e w4 ⟨h, hb4⟩
    rw [show (⟨⟨[]⟩⟩ : ByteArray).data.toList = [] from rfl, Ut.validD_nil, if_pos rfl] at h
    obtain ⟨v4, rfl, -⟩ := h
    have HB4 := Lib.hid (HB3.out.trans (hb4.mono HB3.out.size))
    clear hb4 hcv
    go_wp2
    go_loopw [5, 6] (fun e k wr => e = .int .i64 0 ∧ k = .int .i64 1 ∧ RowKit.Hid (Below w.heap.size w wr)) (fun _ _ _ => 0)
    case atStart => exact ⟨rfl, rfl, HB4.out⟩
    case round =>
      obtain ⟨rfl, rfl, HB⟩ := hrel
      go_wp2
      go_ret
      exact ⟨rfl, HB.out⟩
set_option maxHeartbeats 2000000 in
theorem utfFront_walk (v : Value) (L : List UInt8) (w : World) (hv : ArgB w v L) (hT : Tabs w) : Calls Tryd.prog 9 #[v] w (TruePost w) := by
  rcases hv.form with ⟨rfl, rfl⟩ | ⟨ad, c, rfl, rfl⟩ | ⟨g, o, c, rfl, hpos, hc, hg, hr⟩
  · exact utfFront_none _ w 0 .nil hv hT
  · exact utfFront_none _ w c (.some ad) hv hT
  · obtain ⟨N, hN⟩ : ∃ N, N = L.length := ⟨_, rfl⟩
    have HN := Lib.hid hN
    have HV := Lib.hid hv
    have HR := Lib.hid hr
    rw [← hN] at hpos hc hv hr ⊢
    clear hN hv hr
    go_enter Tryd.func9, Tryd.ntmps9
    go_wp2_with fail
    refine (alive_any w hT).mono ?_
    rintro e w1 ⟨rfl, hb1⟩
    have HB1 := Lib.hid hb1
    have HT1 := Lib.hid (Utf8Tabs_below hT hb1)
    by_cases hlen : N > 5000
    · have hl : (N : Int) > 5000 := by omega
      clear hb1 hlen
      go_wp2
      go_ret
      exact ⟨rfl, HB1.out⟩
    · have hl : ¬ (N : Int) > 5000 := by omega
      have HV1 := Lib.hid (show ArgB w1 _ L from ⟨(HV.out.1.below hb1).more hb1.size, HV.out.2⟩)
      have hs1 := hb1.size
      clear hb1
      go_wp2_with fail
      refine (copyBytes_any _ L w1 (HN.out ▸ HV1.out) (by have := HN.out; omega)).mono ?_
      rintro e w2 ⟨v2, rfl, ho, hb2⟩
      have HO2 := Lib.hid (Rd.of_own ho.out.2)
      have HB2 := Lib.hid (HB1.out.trans (hb2.mono hs1))
      have HT2 := Lib.hid (Utf8Tabs_below HT1.out hb2)
      have hs2 := hb2.size
      clear hb2 ho
      go_wp2_with fail
      refine (valid_any v2 L w2 _ (Nat.le_refl _) HO2.out (by have := HN.out; omega) HT2.out).mono ?_
      rintro e w3 ⟨rfl, hb3⟩
      have HB3 := Lib.hid (HB2.out.trans (hb3.mono (by omega)))
      have HT3 := Lib.hid (Utf8Tabs_below HT2.out hb3)
      have hs3 := hb3.size
      clear hb3
      obtain ⟨n, hn⟩ : ∃ n, n = Ut.validP L := ⟨_, rfl⟩
      obtain ⟨hf1, hf2, -⟩ := Ut.validP_front L.length L (Nat.le_refl _)
      rw [← hn] at hf1 hf2 ⊢
      have HNN := Lib.hid hn
      have hnN : n ≤ N := by have := HN.out; omega
      have q1 : ¬ (n : Int) < 0 := by omega
      have q2 : ¬ (n : Int) > N := by omega
      have HV2 := Lib.hid hf2
      have HR3 := Lib.hid (show ∀ j, j < L.length → w3.cell? ⟨g, o + j, none⟩ = (bytesV L)[j]? from fun j hj => (HB3.out.cell (p := ⟨g, o + j, none⟩) hg).trans (HR.out j hj))
      have hcv := conv_rd (P := Tryd.prog) (Rd.part (c := c) HR3.out (show g < w3.heap.size by omega) 0 n (by have := HN.out; omega) (by omega)) 22 9 5 Tryd.underlying22 Tryd.underlying5 Tryd.underlying9
      rw [Nat.add_zero] at hcv
      clear hn hf1 hf2
      go_wp2_with fail
      refine (runes_any vs ⟨⟨L.take n⟩⟩ w3 (by show (L.take n).length ≤ _; rw [List.length_take]; omega) HT3.out).mono ?_
      rintro e w4 ⟨h, hb4⟩
      rw [show (⟨⟨L.take n⟩⟩ : ByteArray).data.toList = L.take n from rfl, HV2.out, if_pos rfl] at h
      obtain ⟨v4, rfl, -⟩ := h
      have HB4 := Lib.hid (HB3.out.trans (hb4.mono (by omega)))
      have HT4 := Lib.hid (Utf8Tabs_below HT3.out hb4)
      clear hb4 hcv
      go_wp2
      go_loopw [5, 6] (fun e k wr => ∃ (j m : Nat), e = .int .i64 m ∧ k = .int .i64 ((n + 1 + j : Nat) : Int) ∧ j ≤ 4 ∧ n + j ≤ N ∧ RowKit.Hid (Below w.heap.size w wr)) (fun _ k _ => 4 + n + 1 - (RowKit.intOf k).toNat)
      case atStart => exact ⟨0, 0, rfl, by go_num, by omega, by omega, HB4.out⟩
      case round =>
        obtain ⟨j, m, rfl, rfl, hj, hnj, HB⟩ := hrel
        have hsz := HB.out.size
        by_cases hk : n + 1 + j ≤ N
        · by_cases hj4 : j < 4
          · have HR4 := Lib.hid (show ∀ j, j < L.length → wr.cell? ⟨g, o + j, none⟩ = (bytesV L)[j]? from fun j hj => (HB.out.cell (p := ⟨g, o + j, none⟩) hg).trans (HR.out j hj))
            have hcv := conv_rd (P := Tryd.prog) (Rd.part (c := c - n) HR4.out (show g < wr.heap.size by omega) n (n + 1 + j - n) (by have := HN.out; omega) (by omega)) 22 9 5 Tryd.underlying22 Tryd.underlying5 Tryd.underlying9
            have HT5 := Lib.hid (Utf8Tabs_below hT HB.out)
            have hk1 : ((n + 1 + j : Nat) : Int) ≤ N := by omega
            have hk2 : ((n + 1 + j : Nat) : Int) ≤ n + 4 := by omega
            have HNO := Lib.hid (show validD ((L.drop n).take (n + 1 + j - n)) = false from by
              have e := HNN.out
              rw [e]
              exact front_no L _ (by omega) (by have := HN.out; omega))
            go_wp2_with fail
            refine (runes_any vs ⟨⟨(L.drop n).take (n + 1 + j - n)⟩⟩ wr (by show ((L.drop n).take (n + 1 + j - n)).length ≤ _; rw [List.length_take]; omega) HT5.out).mono ?_
            rintro e w5 ⟨h, hb5⟩
            rw [show (⟨⟨(L.drop n).take (n + 1 + j - n)⟩⟩ : ByteArray).data.toList = (L.drop n).take (n + 1 + j - n) from rfl, HNO.out, if_neg (by simp)] at h
            subst h
            have HB5 := Lib.hid (HB.out.trans (hb5.mono hsz))
            clear hb5 hcv
            go_wp2
            go_roundw
            case rel => exact ⟨j + 1, 40, rfl, by go_num, by omega, by omega, HB5.out⟩
            case measure => simp [RowKit.intOf]; omega
          · have hk1 : ((n + 1 + j : Nat) : Int) ≤ N := by omega
            have hk2 : ¬ ((n + 1 + j : Nat) : Int) ≤ n + 4 := by omega
            go_wp2
            go_ret
            exact ⟨rfl, HB.out⟩
        · have hk1 : ¬ ((n + 1 + j : Nat) : Int) ≤ N := by omega
          go_wp2
          go_ret
          exact ⟨rfl, HB.out⟩
end Go.Proofs.YtdeihlbnlogjcaaDoor
