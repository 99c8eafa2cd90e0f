/- The contract of the reference's Runes. -/
import Derived.Test.YtdeihlbnlogjcaaDoorUtfXh
import Derived.Test.YtdeihlbnlogjcaaDoorUtfL
namespace Go.Proofs.YtdeihlbnlogjcaaDoor
open Go.RowKit Go.Lib Go.Shelf
set_option maxRecDepth 100000
set_option linter.unusedVariables false
set_option linter.unusedSectionVars false

theorem FPost.yes {L : List UInt8} {w w' : World} {e : Ending} (h : FPost L w e w') (h1 : L ≠ []) (h2 : Ut.okH L) : e = .returned (.tuple #[.int .i64 ((decodeL L).1 : Int), .int .i64 ((decodeL L).2 : Int)]) ∧ Below w.heap.size w w' := by
  have h := h
  unfold FPost at h
  rw [if_pos ⟨h1, h2⟩, if_pos ⟨h1, h2⟩] at h
  exact h
theorem FPost.no {L : List UInt8} {w w' : World} {e : Ending} (h : FPost L w e w') (h2 : ¬ Ut.okH L) : e = .returned (.tuple #[.int .i64 0, .int .i64 0]) ∧ Below w.heap.size w w' := by
  have h := h
  unfold FPost at h
  rw [if_neg (fun h => h2 h.2), if_neg (fun h => h2 h.2)] at h
  exact h
theorem rd_from {w : World} {B g c k m : Nat} {L : List UInt8} (h : ∀ j, j < L.length → w.cell? ⟨g, j, none⟩ = (bytesV L)[j]?) (hg : g < B) (hm : m = L.length - k) (hk : k ≤ L.length) (hc : m ≤ c) : Rd w B 1 (.slice (some ⟨g, k, none⟩) m c) (L.drop k).length (bytesV (L.drop k)) := by
  have hl : (L.drop k).length = m := by rw [List.length_drop]; omega
  refine ⟨by rw [bytesV_len, Nat.mul_one], _, _, by rw [hl], by omega, fun _ => ⟨g, k, rfl, hg, fun j hj => ?_⟩⟩
  rw [h (k + j) (by omega)]
  unfold bytesV
  rw [List.getElem?_map, List.getElem?_map, List.getElem?_drop]
def RLoop (L : List UInt8) (k : Nat) (acc : List Int) : Prop := acc ++ Ut.runesF (L.drop k) = Ut.runesF L ∧ validD (L.drop k) = validD L
theorem RLoop.next {L : List UInt8} {k : Nat} {acc : List Int} (h : RLoop L k acc) (hne : L.drop k ≠ []) (ok : Ut.okH (L.drop k)) : RLoop L (k + (decodeL (L.drop k)).2) (acc ++ [((decodeL (L.drop k)).1 : Int)]) := by
  obtain ⟨h1, h2⟩ := h
  rw [Ut.runes_step _ hne, List.drop_drop] at h1
  rw [Ut.validD_ok _ hne ok, List.drop_drop] at h2
  exact ⟨by rw [← h1]; simp, h2⟩
def RRPost (L : List UInt8) (w : World) (e : Ending) (w' : World) : Prop :=
  (if validD L = true then ∃ v, e = .returned (.tuple #[v, .int .i64 0]) ∧ Ints w.heap.size (Ut.runesF L) v w' else e = .returned (.tuple #[.slice none 0 0, .int .i64 40])) ∧ Below w.heap.size w w'
def lenOf : Value → Nat
  | .slice _ n _ => n
  | _ => 0
theorem rr_next {b : Nat} {W W1 w3 : World} {acc : List Int} {R : Int} {v v' : Value} {o : Obj} (hb : Below b W W1) (ho : W1.ownsRow b 3 1 v acc.length (intsV acc)) (hne : v ≠ .slice none 0 0)
    (hown : w3.ownsRow b 3 1 v' (acc.length + 1) (intsV acc ++ intsV [R])) (hg : (W1.alloc o).grownBy w3 v.ownBlock) (hnil : v' = .slice none 0 0 ↔ v = .slice none 0 0 ∧ 1 = 0) :
    Ints b (acc ++ [R]) v' w3 ∧ Below b W w3 := by
  have hs : b ≤ W1.heap.size := by
    rcases ho.2 with ⟨e, _⟩ | ⟨g, cap, cur, rfl, hb, hk, _⟩
    · exact absurd e hne
    · have := (Array.getElem?_eq_some_iff.1 hk).1
      omega
  refine ⟨⟨fun e => hne (hnil.1 e).1, ?_⟩, (hb.alloc hs o).grown hg (by simp; omega) (fun j e => (ho.lt j e).1)⟩
  rw [intsV_app, List.length_append]
  exact hown
set_option maxHeartbeats 2000000 in
theorem rrunes_any (hF : FirstC) (s : ByteArray) (w : World) (hs : s.size ≤ 1099511627776) :
    Calls Tryd.prog 25 #[.string s] w (RRPost s.data.toList w) := by
  obtain ⟨i0, hi, hz0, hz1, hz2⟩ := info_parts infoInt
  obtain ⟨L, hL⟩ : ∃ L, L = s.data.toList := ⟨_, rfl⟩
  have hLs : L.length = s.size := by rw [hL]; simp
  obtain ⟨capF, objF, hcb, hnews, hcap⟩ := conv_bytes (P := Tryd.prog) s 9 22 5 Tryd.underlying9 Tryd.underlying22 Tryd.underlying5
  rw [← hL] at hnews ⊢
  have HNW := Lib.hid hnews
  have hcapw := hcap w
  have HLS := Lib.hid hLs
  obtain ⟨C, hC⟩ : ∃ C, C = capF w := ⟨_, rfl⟩
  obtain ⟨o, ho⟩ : ∃ o, o = objF w := ⟨_, rfl⟩
  obtain ⟨N, hN⟩ : ∃ N, N = s.size := ⟨_, rfl⟩
  have hcw := hcb w
  rw [← hC, ← ho] at hcw
  rw [← hC, ← hN] at hcapw
  rw [← hN] at hcw HLS hs
  have HCE := Lib.hid (show ∀ j, j < L.length → (w.drew.alloc o).cell? ⟨w.heap.size, j, none⟩ = (bytesV L)[j]? from fun j hj => by
    have h := HNW.out w w.drew j _ rfl (bytesV_get _ j hj)
    rw [add_off, Nat.zero_add, ← ho] at h
    rw [h, bytesV_get _ j hj])
  clear hL hLs hnews hcap hC ho hN hcb
  go_enter Tryd.func25, Tryd.ntmps25
  go_wp2
  go_loopw [4, 5] (fun b v wr => ∃ (k k' m c' : Nat) (acc : List Int), b = .slice (some ⟨w.heap.size, k', none⟩) m c' ∧ (0 < m → k' = k) ∧ m ≤ c' ∧ k + m = N ∧ acc.length ≤ k ∧ RowKit.Hid (RLoop L k acc) ∧ RowKit.Hid (Ints (w.heap.size + 1) acc v wr) ∧ RowKit.Hid (Below (w.heap.size + 1) (w.drew.alloc o) wr)) (fun b _ _ => lenOf b)
  case atStart =>
    refine ⟨0, 0, N, C, [], rfl, fun _ => rfl, hcapw, by omega, by simp, ⟨by simp, by simp⟩, ?_, ?_⟩
    · have h := World.ownsRow_lit (e := 3) (size := 1) (w.drew.alloc o) #[] 0 (Nat.le_refl _) (by unfold maxLen; omega) rfl
      rw [World.size_alloc] at h
      exact ⟨by simp, h⟩
    · have h := (Below.refl (w.drew.alloc o).heap.size (w.drew.alloc o)).alloc (Nat.le_refl _) (.cells #[] 3)
      rw [World.size_alloc] at h
      exact h
  case round =>
    obtain ⟨k, k', m, c', acc, rfl, hkk, hmc, hkm, hal, HL, HI, HB⟩ := hrel
    have hsz : w.heap.size + 1 ≤ wr.heap.size := by
      have h := HB.out.size
      rw [World.size_alloc] at h
      exact h
    have HBW := Lib.hid (show Below w.heap.size w wr from (show Below w.heap.size w (w.drew.alloc o) from ((Below.refl w.heap.size w).drew).alloc (Nat.le_refl _) o).trans (show Below w.heap.size (w.drew.alloc o) wr from HB.out.mono (Nat.le_succ _)))
    by_cases hm : 0 < m
    · obtain rfl := hkk hm
      clear hkk
      have hmi : (m : Int) > 0 := by omega
      have hne : L.drop k' ≠ [] := by
        intro e
        have := congrArg List.length e
        rw [List.length_drop, HLS.out] at this
        simp at this
        omega
      have HRD := Lib.hid (rd_from (w := wr) (B := wr.heap.size) (g := w.heap.size) (c := c') (k := k') (m := m) (L := L) (fun j hj => (HB.out.cell (p := ⟨w.heap.size, j, none⟩) (by show w.heap.size < _; omega)).trans (HCE.out j hj)) (by omega) (by have := HLS.out; omega) (by have := HLS.out; omega) hmc)
      have HF := Lib.hid (hF _ (L.drop k') wr _ (Nat.le_refl _) HRD.out (by rw [List.length_drop]; have := HLS.out; omega))
      by_cases hok : Ut.okH (L.drop k')
      · have hK2 := decodeL_le _ hne
        have hK1 := decodeL_width (L.drop k')
        rw [List.length_drop] at hK2
        have HLN := Lib.hid (HL.out.next hne hok)
        obtain ⟨K, hK⟩ : ∃ K, K = (decodeL (L.drop k')).2 := ⟨_, rfl⟩
        obtain ⟨R, hR⟩ : ∃ R, R = (decodeL (L.drop k')).1 := ⟨_, rfl⟩
        have HF2 := Lib.hid (HF.out.mono fun e w' h => (show e = .returned (.tuple #[.int .i64 (R : Int), .int .i64 (K : Int)]) ∧ Below wr.heap.size wr w' from by rw [hR, hK]; exact h.yes hne hok))
        rw [← hK, ← hR] at HLN
        rw [← hK] at hK1 hK2
        have hKm : K ≤ m := by have := HLS.out; omega
        have hK0 : 1 ≤ K := by have := HLS.out; omega
        have hKi : ¬ (K : Int) = 0 := by omega
        have HO := Lib.hid HI.out.2
        have HNE := Lib.hid HI.out.1
        clear hK hR hne hok hK1 hK2
        go_wp2_with (first | (go_at_call 53; with_reducible (refine HF2.out.mono ?_); rintro e w1 ⟨rfl, hb1⟩; have HST0 := Lib.hid (And.intro (HB.out.trans (hb1.mono hsz)) (own_below HO.out hb1)); have hs1 := hb1.size; clear hb1) | (at_builtin; refine wpList_append_own _ rfl _ _ 27 rfl (w.heap.size + 1) 3 i0 _ 1 8 Tryd.underlying27 hi hz0 hz1 hz2 rfl (by decide) _ _ _ rfl (HST0.out.2.alloc _) ⟨w1.heap.size, 0, none⟩ 1 1 (intsV [(R : Int)]) rfl rfl (cell_one_new _ _ _) (intsV_plain _) (by unfold maxLen; omega) (by omega) (by simp; omega) ?_; intro v3 w3 hown' hgrow hnil; have HST := Lib.hid (rr_next HST0.out.1 HST0.out.2 HNE.out hown' hgrow hnil); clear hown' hgrow hnil))
        go_roundw
        case rel => exact ⟨k' + K, if c' = K then k' else k' + K, m - K, c' - K, acc ++ [(R : Int)], by split <;> rfl, fun h => if_neg (by omega), by omega, by omega, by rw [List.length_append]; simp; omega, HLN, HST.out.1, HST.out.2⟩
        case measure => simp [lenOf]; omega
      · have HF2 := Lib.hid (HF.out.mono fun e w' h => h.no hok)
        have HNV := Lib.hid (show ¬ validD L = true by
          rw [← HL.out.2, Ut.validD_no _ hne hok]
          simp)
        clear hne hok
        go_wp2_with (first | (go_at_call 53; with_reducible (refine HF2.out.mono ?_); rintro e w1 ⟨rfl, hb1⟩; have HBX := Lib.hid (HBW.out.trans (hb1.mono HBW.out.size)); clear hb1))
        go_ret2
        exact ⟨by rw [if_neg HNV.out]; rfl, HBX.out⟩
    · have hmi : ¬ (m : Int) > 0 := by omega
      have hnil : L.drop k = [] := List.drop_eq_nil_of_le (by have := HLS.out; omega)
      have HAC := Lib.hid (show acc = Ut.runesF L ∧ validD L = true by
        obtain ⟨h1, h2⟩ := HL.out
        rw [hnil, Ut.runes_nil, List.append_nil] at h1
        rw [hnil, Ut.validD_nil] at h2
        exact ⟨h1, h2.symm⟩)
      have HI2 := Lib.hid (HI.out.base (Nat.le_succ _))
      clear hnil
      go_wp2
      go_ret2
      exact ⟨by rw [if_pos HAC.out.2, ← HAC.out.1]; exact ⟨_, rfl, HI2.out⟩, HBW.out⟩
end Go.Proofs.YtdeihlbnlogjcaaDoor
