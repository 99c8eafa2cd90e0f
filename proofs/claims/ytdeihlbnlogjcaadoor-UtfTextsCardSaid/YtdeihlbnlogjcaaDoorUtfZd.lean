/- The walk of UtfTexts. -/
import Derived.Test.YtdeihlbnlogjcaaDoorUtfZa
import Derived.Test.YtdeihlbnlogjcaaDoorUtfZc
namespace Go.Proofs.YtdeihlbnlogjcaaDoor
open Go.RowKit Go.Lib Go.Shelf
set_option maxRecDepth 100000
set_option linter.unusedVariables false

def rnL (L : List UInt8) : List Int := if validD L = true then Ut.runesF L else []
def unL (L : List UInt8) : List Int := if validD L = true then Ut.unitsF (Ut.runesF L) else []
def rnK (L : List UInt8) : Int := if validD L = true then 0 else 40
def ListPost (l : List Int) (k : Int) (w : World) (e : Ending) (w' : World) : Prop := ∃ v, e = .returned (.tuple #[v, .int .i64 k]) ∧ RowKit.Hid (Rd w' w'.heap.size 1 v l.length (intsV l)) ∧ Below w.heap.size w w'
theorem RunesPost.one {L : List UInt8} {w w' : World} {e : Ending} (h : RunesPost L w e w') : ListPost (rnL L) (rnK L) w e w' := by
  have hb := h.2
  have h := h.1
  unfold ListPost rnL rnK
  split at h
  · rename_i hv
    rw [if_pos hv, if_pos hv]
    obtain ⟨v, he, hi⟩ := h
    exact ⟨v, he, hi.rd, hb⟩
  · rename_i hv
    rw [if_neg hv, if_neg hv]
    exact ⟨_, h, Rd.nil _ _ _ _ _, hb⟩
theorem UnitsPost.one {L : List UInt8} {w w' : World} {e : Ending} (h : UnitsPost L w e w') : ListPost (unL L) (rnK L) w e w' := by
  have hb := h.2
  have h := h.1
  unfold ListPost unL rnK
  split at h
  · rename_i hv
    rw [if_pos hv, if_pos hv]
    obtain ⟨v, he, hi⟩ := h
    exact ⟨v, he, hi.rd, hb⟩
  · rename_i hv
    rw [if_neg hv, if_neg hv]
    exact ⟨_, h, Rd.nil _ _ _ _ _, hb⟩
theorem rn_len (L : List UInt8) : (rnL L).length ≤ L.length := by
  unfold rnL
  split
  · exact runes_count _ L (Nat.le_refl _)
  · simp
theorem un_len (L : List UInt8) : (unL L).length ≤ L.length := by
  unfold unL
  split
  · rename_i h
    exact units_le L h
  · simp
theorem OwnB.form {b : Nat} {L : List UInt8} {v : Value} {w : World} (h : OwnB b (L ++ marks) v w) : ∃ g c, v = .slice (some ⟨g, 0, none⟩) (L.length + 8) c ∧ L.length + 8 ≤ c ∧ Rd w w.heap.size 1 (.slice (some ⟨g, 0, none⟩) L.length c) L.length (bytesV L) ∧ Rd w w.heap.size 1 v (L ++ marks).length (bytesV (L ++ marks)) := by
  have hr := Rd.of_own h.2
  have hm : (L ++ marks).length = L.length + 8 := by rw [List.length_append]; rfl
  rcases h.2.2 with ⟨rfl, _⟩ | ⟨g, cap, cur, rfl, hb, hk, hn, _⟩
  · exact absurd rfl h.1
  · refine ⟨g, cap, by rw [hm], by omega, ⟨by rw [bytesV_len, Nat.mul_one], _, _, rfl, by omega, fun _ => ⟨g, 0, rfl, (Array.getElem?_eq_some_iff.1 hk).1, fun j hj => ?_⟩⟩, hr⟩
    obtain ⟨-, A, c, e, -, h2⟩ := hr
    obtain ⟨g2, o2, rfl, -, h3⟩ := h2 (by omega)
    simp only [Value.slice.injEq, Option.some.injEq, Addr.mk.injEq] at e
    obtain ⟨⟨rfl, rfl, -⟩, -, -⟩ := e
    rw [h3 j (by omega), ← bytesV_app, List.getElem?_append_left (by rw [bytesV_len]; omega)]
set_option maxHeartbeats 2000000 in
theorem utfTexts_walk (v : Value) (L : List UInt8) (w : World) (hv : ArgB w v L) (hT : Tabs w) : Calls Tryd.prog 3 #[v] w (TruePost w) := by
  obtain ⟨A, c, rfl, hc⟩ : ∃ A c, v = .slice A L.length c ∧ L.length ≤ c := by
    obtain ⟨⟨-, A, c, e, hc, -⟩, -⟩ := hv
    exact ⟨A, c, e, hc⟩
  obtain ⟨n, hn⟩ : ∃ n, n = L.length := ⟨_, rfl⟩
  have HN := Lib.hid hn
  have HV := Lib.hid hv
  rw [← hn] at hc ⊢
  clear hn hv
  have HVB := Lib.hid (fun (W : World) (hb : Below w.heap.size w W) => (show ArgB W (.slice A n c) L from by rw [HN.out]; exact ⟨(HV.out.1.below hb).more hb.size, HV.out.2⟩))
  go_enter Tryd.func3, Tryd.ntmps3
  go_wp2_with fail
  refine (alive_any w hT).mono ?_
  rintro e w1 ⟨rfl, hb1⟩
  have HB1 := Lib.hid hb1
  clear hb1
  by_cases hlen : n > 20000
  · have h2 : (n : Int) > 20000 := by omega
    go_wp2
    go_ret
    exact ⟨rfl, HB1.out⟩
  · have h2 : ¬ (n : Int) > 20000 := by omega
    have hLn : L.length ≤ 20000 := by have := HN.out; omega
    have HLN := Lib.hid hLn
    clear hLn
    go_wp2_with fail
    refine (spare_any _ L w1 (HVB.out _ HB1.out) (by have := HLN.out; omega)).mono ?_
    rintro e w2 ⟨v2, rfl, ho2, hb2⟩
    obtain ⟨g, c2, rfl, hc2, hr2, hr3⟩ := ho2.out.form
    have HB2 := Lib.hid (HB1.out.trans (hb2.mono HB1.out.size))
    have HT2 := Lib.hid (Utf8Tabs_below hT HB2.out)
    have HR2 := Lib.hid hr2
    have HR3 := Lib.hid hr3
    rw [← HN.out] at hc2 HR2 HR3 ⊢
    clear hb2 ho2 hr2 hr3
    have HVL := Lib.hid (valid_any (.slice (some ⟨g, 0, none⟩) n c2) L w2 _ (Nat.le_refl _) (HN.out ▸ HR2.out) (by have := HLN.out; omega) HT2.out)
    obtain ⟨p, hp⟩ : ∃ p : Nat, p = Ut.validP L := ⟨_, rfl⟩
    have HP := Lib.hid hp
    rw [← hp] at HVL
    clear hp
    go_wp2_with fail
    refine HVL.out.mono ?_
    rintro e w3 ⟨rfl, hb3⟩
    have HB3 := Lib.hid (HB2.out.trans (hb3.mono HB2.out.size))
    have HR3' := Lib.hid (HR3.out.below hb3)
    have hs3 := hb3.size
    clear hb3
    have HRV := Lib.hid (rvalid_any first_c (.slice A n c) L w3 _ (Nat.le_refl _) (HN.out ▸ (HVB.out _ HB3.out).1) (by have := HLN.out; omega))
    rw [← HP.out] at HRV
    go_wp2_with fail
    refine HRV.out.mono ?_
    rintro e w4 ⟨rfl, hb4⟩
    have HB4 := Lib.hid (HB3.out.trans (hb4.mono HB3.out.size))
    have HR4 := Lib.hid (HR3'.out.below (hb4.mono hs3))
    have hs4 := hb4.size
    clear hb4
    go_wp2_with fail
    refine (spare_any _ L w4 (HVB.out _ HB4.out) (by have := HLN.out; omega)).mono ?_
    rintro e w5 ⟨v5, rfl, ho5, hb5⟩
    have HB5 := Lib.hid (HB4.out.trans (hb5.mono HB4.out.size))
    have HR5 := Lib.hid (HR4.out.below (hb5.mono (by omega)))
    have HO5 := Lib.hid (Rd.of_own ho5.out.2)
    clear hb5 ho5
    have HSB := Lib.hid (sameBytes_yes (.slice (some ⟨g, 0, none⟩) (n + 8) c2) v5 (L ++ marks) w5 _ _ HR5.out HO5.out (by rw [List.length_append]; have := HLN.out; have : marks.length = 8 := rfl; omega))
    have HCV := Lib.hid (fun q : Nat => conv_rd (P := Tryd.prog) (w := w5.drewN q) (HN.out ▸ (HVB.out (w5.drewN q) (below_drewN HB5.out q)).1) 22 9 5 Tryd.underlying22 Tryd.underlying5 Tryd.underlying9)
    obtain ⟨X, hX⟩ : ∃ X : ByteArray, X = ⟨⟨L⟩⟩ := ⟨_, rfl⟩
    have HXL := Lib.hid (show X.data.toList = L by rw [hX])
    have HXS := Lib.hid (show X.size ≤ 20000 by rw [hX]; exact HLN.out)
    rw [← HN.out, ← hX] at HCV
    clear hX
    obtain ⟨rl, hrl⟩ : ∃ l, l = rnL L := ⟨_, rfl⟩
    obtain ⟨ul, hul⟩ : ∃ l, l = unL L := ⟨_, rfl⟩
    obtain ⟨K, hK⟩ : ∃ l, l = rnK L := ⟨_, rfl⟩
    have HRL := Lib.hid (show rl.length ≤ 20000 by rw [hrl]; have := rn_len L; have := HLN.out; omega)
    have HUL := Lib.hid (show ul.length ≤ 20000 by rw [hul]; have := un_len L; have := HLN.out; omega)
    have HA := Lib.hid (fun W hT => (runes_any vs X W (by have := HXS.out; omega) hT).mono fun e w' h => (show ListPost rl K W e w' from by rw [hrl, hK]; rw [HXL.out] at h; exact h.one))
    have HC := Lib.hid (fun W => (rrunes_any first_c X W (by have := HXS.out; omega)).mono fun e w' h => (show ListPost rl K W e w' from by rw [hrl, hK]; rw [HXL.out] at h; exact RunesPost.one h))
    have HD := Lib.hid (fun W hT => (units_any X W (by have := HXS.out; omega) hT).mono fun e w' h => (show ListPost ul K W e w' from by rw [hul, hK]; rw [HXL.out] at h; exact h.one))
    have HE := Lib.hid (fun W => (runits_any first_c X W (by have := HXS.out; omega)).mono fun e w' h => (show ListPost ul K W e w' from by rw [hul, hK]; rw [HXL.out] at h; exact h.one))
    clear hrl hul hK
    go_wp2_with (go_at_call 23; with_reducible (refine HSB.out.mono ?_); rintro e w6 ⟨rfl, q, rfl⟩; have hcv := HCV.out q)
    have HB6 := Lib.hid (below_drewN HB5.out q)
    clear hcv
    obtain ⟨w6, hw6⟩ : ∃ w6, w6 = w5.drewN q := ⟨_, rfl⟩
    rw [← hw6] at HB6 ⊢
    clear hw6
    refine (HA.out w6 (Utf8Tabs_below hT HB6.out)).mono ?_
    rintro e w7 ⟨v7, rfl, hr7, hb7⟩
    have HB7 := Lib.hid (HB6.out.trans (hb7.mono HB6.out.size))
    clear hb7
    go_wp2_with fail
    refine (HC.out w7).mono ?_
    rintro e w8 ⟨v8, rfl, hr8, hb8⟩
    have HB8 := Lib.hid (HB7.out.trans (hb8.mono HB7.out.size))
    have HR7 := Lib.hid (hr7.out.below hb8)
    clear hb8 hr7
    have HS1 := Lib.hid (sameInts_yes v7 v8 rl w8 _ _ HR7.out hr8.out (by have := HRL.out; omega))
    go_wp2_with (go_at_call 26; with_reducible (refine HS1.out.mono ?_); rintro e w9 ⟨rfl, q2, rfl⟩)
    have HB9 := Lib.hid (below_drewN HB8.out q2)
    obtain ⟨w9, hw9⟩ : ∃ w9, w9 = w8.drewN q2 := ⟨_, rfl⟩
    rw [← hw9] at HB9 ⊢
    clear hw9 HS1
    refine (HD.out w9 (Utf8Tabs_below hT HB9.out)).mono ?_
    rintro e w10 ⟨v10, rfl, hr10, hb10⟩
    have HB10 := Lib.hid (HB9.out.trans (hb10.mono HB9.out.size))
    clear hb10
    go_wp2_with fail
    refine (HE.out w10).mono ?_
    rintro e w11 ⟨v11, rfl, hr11, hb11⟩
    have HB11 := Lib.hid (HB10.out.trans (hb11.mono HB10.out.size))
    have HR10 := Lib.hid (hr10.out.below hb11)
    clear hb11 hr10
    have HS2 := Lib.hid (sameInts_yes v10 v11 ul w11 _ _ HR10.out hr11.out (by have := HUL.out; omega))
    go_wp2_with (go_at_call 26; with_reducible (refine HS2.out.mono ?_); rintro e w12 ⟨rfl, q3, rfl⟩)
    go_ret
    exact ⟨rfl, below_drewN HB11.out q3⟩
end Go.Proofs.YtdeihlbnlogjcaaDoor
