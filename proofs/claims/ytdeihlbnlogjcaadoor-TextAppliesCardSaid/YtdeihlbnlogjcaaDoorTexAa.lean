/- The walk of TextApplies. -/
import Derived.Test.YtdeihlbnlogjcaaDoorTexZ
namespace Go.Proofs.YtdeihlbnlogjcaaDoor
open Go.RowKit Go.Lib Go.Shelf
set_option maxRecDepth 100000
set_option linter.unusedVariables false

theorem run_eqIn_ed (W : World) (d : Nat) (a b c e : Int) (t : ByteArray) : (Op.equalIn (d + 2) 60 (.agg #[.int .i64 a, .int .i64 b, .int .i64 c, .int .i64 e, .string t]) (.agg #[.int .i64 a, .int .i64 b, .int .i64 c, .int .i64 e, .string t])).run Tryd.prog W = .ok true W := by
  have hst : Tryd.prog.stoodInHeld 60 = false := by kernel_rfl
  have hu : Tryd.prog.underlying 60 = some (.struct (Tryd.prog.fieldsOf 60)) := by kernel_rfl
  rw [run_equalIn_agg W _ _ _ _ hu hst]
  simp [go_sem]
theorem run_neq_ed (W : World) (a b c e : Int) (t : ByteArray) : (binOp .neq 60 (.agg #[.int .i64 a, .int .i64 b, .int .i64 c, .int .i64 e, .string t]) (.agg #[.int .i64 a, .int .i64 b, .int .i64 c, .int .i64 e, .string t])).run Tryd.prog W = .ok (.bool false) W := by
  rw [run_neq_struct, run_eqIn_ed W 9998]
  rfl
theorem run_eql_ed (W : World) (a b c e : Int) (t : ByteArray) : (binOp .eql 60 (.agg #[.int .i64 a, .int .i64 b, .int .i64 c, .int .i64 e, .string t]) (.agg #[.int .i64 a, .int .i64 b, .int .i64 c, .int .i64 e, .string t])).run Tryd.prog W = .ok (.bool true) W := by
  rw [run_eql_struct, run_eqIn_ed W 9998]
  rfl
set_option maxHeartbeats 1500000 in
theorem textApplies_walk (s : ByteArray) (v : Value) (xs : List ET) (w : World) (hs : s.size ≤ 140737488351232) (hv : ArgE w v xs) (hT : Tabs w) (hM : MaxL w) :
    Calls Tryd.prog 12 #[.string s, v] w (TruePost w) := by
  have hml := Lib.hid (maxL_lt hM)
  have HV := Lib.hid hv
  obtain ⟨n, hn⟩ : ∃ n, n = xs.length := ⟨_, rfl⟩
  have HN := Lib.hid hn
  obtain ⟨⟨⟨-, A, c, rfl, hc, hr⟩, -⟩, -, hln⟩ := hv
  rw [← hn] at hc hr hln HV ⊢
  have HR := Lib.hid hr
  clear hr hn
  go_enter Tryd.func12, Tryd.ntmps12
  go_wp2_with fail
  refine (alive7_any w hT hM).mono ?_
  rintro e w1 ⟨rfl, hb1⟩
  have HB1 := Lib.hid hb1
  have HV1 := Lib.hid (HV.out.below hb1)
  clear hb1
  go_wp2_with fail
  refine (great_any s _ xs w1 hs HV1.out).mono ?_
  rintro e w2 ⟨rfl, rfl⟩
  cases hgr : grB s.size xs
  · obtain ⟨hs1, hl1, hx1⟩ := grB_no hgr
    rw [← HN.out] at hl1
    have HOK := Lib.hid (edOk_of HV.out.2.1 hx1)
    clear hgr hx1
    have HA := Lib.hid (fun v W (hv : Rd W W.heap.size 5 v xs.length (etsCells xs)) (hb : Below w.heap.size w W) => apply_any v xs s W hv (by omega) HOK.out (by rw [← HN.out]; omega) (Utf8Tabs_below hT hb) (maxL_below hM hb hml.out))
    have HA2 := Lib.hid (fun v W (hv : Rd W W.heap.size 5 v xs.length (etsCells xs)) => rapply7_any v xs s W hv (by omega) HOK.out (by rw [← HN.out]; omega))
    obtain ⟨E, hE⟩ : ∃ E, E = apAE s xs := ⟨_, rfl⟩
    obtain ⟨R, hR⟩ : ∃ R, R = apAS s xs := ⟨_, rfl⟩
    rw [← hE, ← hR] at HA HA2
    clear hE hR
    go_wp2_with fail
    refine (copyEdits_any _ xs w1 (HN.out ▸ HV1.out) (by rw [← HN.out]; omega)).mono ?_
    rintro e w3 ⟨v3, rfl, ho, hb3⟩
    have HO3 := Lib.hid (Rd.of_own ho.out)
    have HB3 := Lib.hid (HB1.out.trans (hb3.mono HB1.out.size))
    clear ho hb3
    go_wp2_with fail
    refine (HA.out v3 w3 HO3.out HB3.out).mono ?_
    rintro e w4 ⟨rfl, hb4⟩
    have HB4 := Lib.hid (HB3.out.trans (hb4.mono HB3.out.size))
    have HO4 := Lib.hid ((HO3.out.below hb4).more hb4.size)
    have HV4 := Lib.hid (HV.out.below HB4.out)
    clear hb4
    go_wp2_with fail
    refine (HA2.out _ w4 (HN.out ▸ HV4.out.1.1)).mono ?_
    rintro e w5 ⟨rfl, hb5⟩
    have HB5 := Lib.hid (HB4.out.trans (hb5.mono HB4.out.size))
    have HO5 := Lib.hid ((HO4.out.below hb5).more hb5.size)
    clear hb5
    have ho5 := HO5.out
    rw [← HN.out] at ho5
    obtain ⟨-, A3, c3, rfl, hc3, hr3⟩ := ho5
    have HR3 := Lib.hid hr3
    have HR5 := Lib.hid (show 0 < n → ∃ g o, A = some ⟨g, o, none⟩ ∧ g < w5.heap.size ∧ ∀ j, j < n * 5 → w5.cell? ⟨g, o + j, none⟩ = (etsCells xs)[j]? from fun h => by
      obtain ⟨g, o, e, hg, hr⟩ := HR.out h
      exact ⟨g, o, e, by have := HB5.out.size; omega, fun j hj => (HB5.out.cell (p := ⟨g, o + j, none⟩) hg).trans (hr j hj)⟩)
    clear hr3
    go_wp2
    go_loopw [10] (fun i wr => ∃ k : Nat, k ≤ n ∧ i = .int .i64 k ∧ RowKit.Hid (DrewQ w5 wr)) (fun i _ => n - (RowKit.intOf i).toNat)
    case atStart => exact ⟨0, by omega, rfl, DrewQ.refl w5⟩
    case round =>
      obtain ⟨k, hk, rfl, HD⟩ := hrel
      by_cases hkn : k < n
      · have hki : (k : Int) < n := by omega
        obtain ⟨g, o, rfl, hg, hr⟩ := HR5.out (by omega)
        obtain ⟨g3, o3, rfl, hg3, hr3⟩ := HR3.out (by omega)
        obtain ⟨x, hxk, d0, d1, d2, d3, d4⟩ := rd_et hr HN.out hkn
        obtain ⟨y, hyk, q0, q1, q2, q3, q4⟩ := rd_et hr3 HN.out hkn
        obtain rfl : x = y := Option.some.inj (hxk.symm.trans hyk)
        have hdd : ∀ p : Addr, wr.cell? p = w5.cell? p := fun p => by
          obtain ⟨q, rfl⟩ := HD.out
          rfl
        rw [← hdd] at d0 d1 d2 d3 d4 q0 q1 q2 q3 q4
        have hnq := fun W => run_neq_ed W x.a x.b x.c x.d x.t
        clear hr hr3 hxk hyk hdd
        go_wp2
        go_quiet (fail)
        go_wp2
        go_roundw
        case rel => exact ⟨k + 1, by omega, by go_num, HD.out.more _⟩
        case measure => (simp [RowKit.intOf] <;> omega)
      · have hki : ¬ (k : Int) < n := by omega
        go_wp2
        go_ret
        refine ⟨rfl, ?_⟩
        obtain ⟨q, rfl⟩ := HD.out
        exact below_drewN HB5.out q
  · go_wp2
    go_ret
    exact ⟨rfl, HB1.out⟩
end Go.Proofs.YtdeihlbnlogjcaaDoor
