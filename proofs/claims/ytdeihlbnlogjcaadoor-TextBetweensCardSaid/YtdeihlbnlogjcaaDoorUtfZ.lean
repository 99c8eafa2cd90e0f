/- The contracts of the reference's Offset and Unit. -/
import Derived.Test.YtdeihlbnlogjcaaDoorUtfY
namespace Go.Proofs.YtdeihlbnlogjcaaDoor
open Go.RowKit Go.Lib Go.Shelf
set_option maxRecDepth 100000
set_option linter.unusedVariables false
set_option linter.unusedSectionVars false

theorem runits1_any (r : Int) (h : Ut.isR r = true) (w : World) : Calls Tryd.prog 56 #[.int .i64 r] w fun e w' => ∃ m : Nat, (m : Int) = Ut.widthR r ∧ e = .returned (.slice (some ⟨w.heap.size, 0, none⟩) m m) ∧ Below w.heap.size w w' := by
  have hr : 0 ≤ r ∧ r ≤ 1114111 := by simp only [Ut.isR, decide_eq_true_eq] at h; omega
  obtain ⟨h0, h9⟩ := hr
  clear h
  by_cases h1 : r < 65536
  · have HW := Lib.hid (show (1 : Int) = Ut.widthR r by unfold Ut.widthR; rw [if_pos h1])
    go_enter Tryd.func56, Tryd.ntmps56
    go_wp2
    go_ret
    exact ⟨1, HW.out, rfl, (Below.refl _ _).alloc (Nat.le_refl _) _⟩
  · have HW := Lib.hid (show (2 : Int) = Ut.widthR r by unfold Ut.widthR; rw [if_neg h1])
    go_enter Tryd.func56, Tryd.ntmps56
    go_wp2
    go_ret
    exact ⟨2, HW.out, rfl, (Below.refl _ _).alloc (Nat.le_refl _) _⟩
theorem off_cons (o u r : Int) (rs : List Int) (n : Int) : Ut.offF o u (r :: rs) n = if u = n then some o else Ut.offF (o + (encodeRune r).length) (u + Ut.widthR r) rs n := rfl
theorem off_nil (o u n : Int) : Ut.offF o u [] n = if u = n then some o else none := rfl
theorem unit_cons (o u r : Int) (rs : List Int) (n : Int) : Ut.unitF o u (r :: rs) n = if o = n then some u else Ut.unitF (o + (encodeRune r).length) (u + Ut.widthR r) rs n := rfl
theorem unit_nil (o u n : Int) : Ut.unitF o u [] n = if o = n then some u else none := rfl
set_option maxHeartbeats 2000000 in
theorem roffset_any (hF : FirstC) (s : ByteArray) (want : Int) (w : World) (hs : s.size ≤ 1099511627776) :
    Calls Tryd.prog 35 #[.string s, .int .i64 want] w (OffPost s.data.toList want w) := by
  have hct := runes_count _ s.data.toList (Nat.le_refl _)
  rw [show s.data.toList.length = s.size by simp] at hct
  go_enter Tryd.func35, Tryd.ntmps35
  go_wp2_with fail
  refine (rrunes_any hF s w hs).mono ?_
  rintro e w1 ⟨h, hb1⟩
  have HB1 := Lib.hid hb1
  have hs1 := hb1.size
  clear hb1
  cases hv : validD s.data.toList
  · rw [hv, if_neg (by simp)] at h
    subst h
    have HV := Lib.hid hv
    clear hv
    go_wp2
    go_ret2
    exact ⟨by rw [if_neg (by rw [HV.out]; simp)]; rfl, HB1.out⟩
  · rw [hv, if_pos rfl] at h
    obtain ⟨v, rfl, hi⟩ := h
    have HV := Lib.hid hv
    have HIS := Lib.hid (Ut.valid_all _ hv).2.1
    obtain ⟨rs, hrs⟩ : ∃ rs, rs = Ut.runesF s.data.toList := ⟨_, rfl⟩
    have HRS := Lib.hid hrs
    rw [← hrs] at hi hct HIS
    obtain ⟨-, A, c, rfl, hc, hr0⟩ := hi.rd
    obtain ⟨N, hN⟩ : ∃ N, N = rs.length := ⟨_, rfl⟩
    have HN := Lib.hid hN
    rw [← hN] at hc hr0 hct ⊢
    have HR := Lib.hid hr0
    clear hv hrs hi hr0 hN
    go_wp2
    go_loopw [8, 9, 10] (fun a b i wr => ∃ (k : Nat) (u o : Int), a = .int .i64 u ∧ b = .int .i64 o ∧ i = .int .i64 k ∧ k ≤ N + 1 ∧ 0 ≤ u ∧ u ≤ 2 * k ∧ 0 ≤ o ∧ o ≤ 4 * k ∧ RowKit.Hid (Below w1.heap.size w1 wr) ∧ RowKit.Hid (k ≤ N → Ut.offF 0 0 rs want = Ut.offF o u (rs.drop k) want) ∧ RowKit.Hid (N < k → Ut.offF 0 0 rs want = none)) (fun _ _ i _ => N + 2 - (RowKit.intOf i).toNat)
    case atStart => exact ⟨0, 0, 0, rfl, rfl, rfl, by omega, by omega, by omega, by omega, by omega, Below.refl _ _, fun _ => by simp, fun h => absurd h (by omega)⟩
    case round =>
      obtain ⟨k, u, o, rfl, rfl, rfl, hk, hu0, hu1, ho0, ho1, HB, HE, HX⟩ := hrel
      have hsz := HB.out.size
      have HBW := Lib.hid (HB1.out.trans (HB.out.mono hs1))
      by_cases hkN : k ≤ N
      · have hki : (k : Int) ≤ N := by omega
        have he := HE.out hkN
        by_cases hlt : k < N
        · obtain ⟨g, oo, rfl, hg, hr⟩ := HR.out (by omega)
          obtain ⟨r, hrk, d0⟩ := rd_int hr HN.out hlt
          have c0 := (HB.out.cell (p := ⟨g, oo + k, none⟩) (by show g < _; omega)).trans d0
          have his := HIS.out r (List.mem_of_getElem? hrk)
          rw [get_drop hrk, off_cons] at he
          by_cases hun : u = want
          · rw [if_pos hun] at he
            have HEX := Lib.hid he
            clear hr d0 hrk his he
            go_wp2
            go_ret2
            exact ⟨by rw [if_pos HV.out, ← HRS.out, HEX.out]; rfl, HBW.out⟩
          · rw [if_neg hun] at he
            have hel := Ut.enc_len r his
            obtain ⟨mb, hmb⟩ : ∃ m, m = (encodeRune r).length := ⟨_, rfl⟩
            have hwp := Ut.width_pos r
            obtain ⟨wd, hwd⟩ : ∃ m : Nat, (m : Int) = Ut.widthR r := ⟨(Ut.widthR r).toNat, by omega⟩
            rw [← hmb, ← hwd] at he
            rw [← hmb] at hel
            rw [← hwd] at hwp
            have HEX := Lib.hid he
            have HU := Lib.hid (fun W => (runits1_any r his W).mono fun e w' h => (show e = .returned (.slice (some ⟨W.heap.size, 0, none⟩) wd wd) ∧ Below W.heap.size W w' from by
              obtain ⟨m, h1, h2, h3⟩ := h
              have : m = wd := by omega
              rw [this] at h2
              exact ⟨h2, h3⟩))
            have HRB := Lib.hid (fun W => (rbytes_any r his W).mono fun e w' h => (show e = .returned (.slice (some ⟨W.heap.size, 0, none⟩) mb mb) ∧ Below W.heap.size W w' from by
              obtain ⟨n, hn, h1, h2⟩ := h
              rw [hmb, ← hn]
              exact ⟨h1, h2 ▸ (Below.refl _ _).alloc (Nat.le_refl _) _⟩))
            obtain ⟨hl1, hl2, -⟩ := hel
            obtain ⟨hw1, hw2⟩ := hwp
            have hki2 : (k : Int) < N := by omega
            have HG := Lib.hid (fun (W : World) (hb : Below wr.heap.size wr W) => (hb.cell (p := ⟨g, oo + k, none⟩) (by show g < _; omega)).trans c0)
            clear hr d0 hrk his he hmb hwd
            go_wp2_with (first | (go_at_call 56; with_reducible (refine (HU.out _).mono ?_); rintro e w2 ⟨rfl, hb2⟩; have c2 := HG.out _ hb2; have HB2 := Lib.hid (HB.out.trans (hb2.mono hsz)); have hs2 := hb2.size; clear hb2) | (go_at_call 60; with_reducible (refine (HRB.out _).mono ?_); rintro e w3 ⟨rfl, hb3⟩; have HB3 := Lib.hid (HB2.out.trans (hb3.mono HB2.out.size)); clear hb3))
            go_roundw
            case rel => exact ⟨k + 1, u + wd, o + mb, rfl, rfl, by go_num, by omega, by omega, by omega, by omega, by omega, HB3.out, fun _ => HEX.out, fun h => absurd h (by omega)⟩
            case measure => simp [RowKit.intOf]; omega
        · have hki2 : ¬ (k : Int) < N := by omega
          have hkN2 : k = N := by omega
          rw [List.drop_eq_nil_of_le (by have := HN.out; omega), off_nil] at he
          by_cases hun : u = want
          · rw [if_pos hun] at he
            have HEX := Lib.hid he
            clear he
            go_wp2
            go_ret2
            exact ⟨by rw [if_pos HV.out, ← HRS.out, HEX.out]; rfl, HBW.out⟩
          · rw [if_neg hun] at he
            have HEX := Lib.hid he
            clear he
            go_wp2
            go_roundw
            case rel => exact ⟨k + 1, u, o, rfl, rfl, by go_num, by omega, by omega, by omega, by omega, by omega, HB.out, fun h => absurd h (by omega), fun _ => HEX.out⟩
            case measure => simp [RowKit.intOf]; omega
      · have hki : ¬ (k : Int) ≤ N := by omega
        have HEX := Lib.hid (HX.out (by omega))
        go_wp2
        go_ret2
        exact ⟨by rw [if_pos HV.out, ← HRS.out, HEX.out]; rfl, HBW.out⟩
set_option maxHeartbeats 2000000 in
theorem runit_any (hF : FirstC) (s : ByteArray) (want : Int) (w : World) (hs : s.size ≤ 1099511627776) :
    Calls Tryd.prog 37 #[.string s, .int .i64 want] w (UnitPost s.data.toList want w) := by
  have hct := runes_count _ s.data.toList (Nat.le_refl _)
  rw [show s.data.toList.length = s.size by simp] at hct
  go_enter Tryd.func37, Tryd.ntmps37
  go_wp2_with fail
  refine (rrunes_any hF s w hs).mono ?_
  rintro e w1 ⟨h, hb1⟩
  have HB1 := Lib.hid hb1
  have hs1 := hb1.size
  clear hb1
  cases hv : validD s.data.toList
  · rw [hv, if_neg (by simp)] at h
    subst h
    have HV := Lib.hid hv
    clear hv
    go_wp2
    go_ret2
    exact ⟨by rw [if_neg (by rw [HV.out]; simp)]; rfl, HB1.out⟩
  · rw [hv, if_pos rfl] at h
    obtain ⟨v, rfl, hi⟩ := h
    have HV := Lib.hid hv
    have HIS := Lib.hid (Ut.valid_all _ hv).2.1
    obtain ⟨rs, hrs⟩ : ∃ rs, rs = Ut.runesF s.data.toList := ⟨_, rfl⟩
    have HRS := Lib.hid hrs
    rw [← hrs] at hi hct HIS
    obtain ⟨-, A, c, rfl, hc, hr0⟩ := hi.rd
    obtain ⟨N, hN⟩ : ∃ N, N = rs.length := ⟨_, rfl⟩
    have HN := Lib.hid hN
    rw [← hN] at hc hr0 hct ⊢
    have HR := Lib.hid hr0
    clear hv hrs hi hr0 hN
    go_wp2
    go_loopw [8, 9, 10] (fun a b i wr => ∃ (k : Nat) (u o : Int), a = .int .i64 u ∧ b = .int .i64 o ∧ i = .int .i64 k ∧ k ≤ N + 1 ∧ 0 ≤ u ∧ u ≤ 2 * k ∧ 0 ≤ o ∧ o ≤ 4 * k ∧ RowKit.Hid (Below w1.heap.size w1 wr) ∧ RowKit.Hid (k ≤ N → Ut.unitF 0 0 rs want = Ut.unitF o u (rs.drop k) want) ∧ RowKit.Hid (N < k → Ut.unitF 0 0 rs want = none)) (fun _ _ i _ => N + 2 - (RowKit.intOf i).toNat)
    case atStart => exact ⟨0, 0, 0, rfl, rfl, rfl, by omega, by omega, by omega, by omega, by omega, Below.refl _ _, fun _ => by simp, fun h => absurd h (by omega)⟩
    case round =>
      obtain ⟨k, u, o, rfl, rfl, rfl, hk, hu0, hu1, ho0, ho1, HB, HE, HX⟩ := hrel
      have hsz := HB.out.size
      have HBW := Lib.hid (HB1.out.trans (HB.out.mono hs1))
      by_cases hkN : k ≤ N
      · have hki : (k : Int) ≤ N := by omega
        have he := HE.out hkN
        by_cases hlt : k < N
        · obtain ⟨g, oo, rfl, hg, hr⟩ := HR.out (by omega)
          obtain ⟨r, hrk, d0⟩ := rd_int hr HN.out hlt
          have c0 := (HB.out.cell (p := ⟨g, oo + k, none⟩) (by show g < _; omega)).trans d0
          have his := HIS.out r (List.mem_of_getElem? hrk)
          rw [get_drop hrk, unit_cons] at he
          by_cases hun : o = want
          · rw [if_pos hun] at he
            have HEX := Lib.hid he
            clear hr d0 hrk his he
            go_wp2
            go_ret2
            exact ⟨by rw [if_pos HV.out, ← HRS.out, HEX.out]; rfl, HBW.out⟩
          · rw [if_neg hun] at he
            have hel := Ut.enc_len r his
            obtain ⟨mb, hmb⟩ : ∃ m, m = (encodeRune r).length := ⟨_, rfl⟩
            have hwp := Ut.width_pos r
            obtain ⟨wd, hwd⟩ : ∃ m : Nat, (m : Int) = Ut.widthR r := ⟨(Ut.widthR r).toNat, by omega⟩
            rw [← hmb, ← hwd] at he
            rw [← hmb] at hel
            rw [← hwd] at hwp
            have HEX := Lib.hid he
            have HU := Lib.hid (fun W => (runits1_any r his W).mono fun e w' h => (show e = .returned (.slice (some ⟨W.heap.size, 0, none⟩) wd wd) ∧ Below W.heap.size W w' from by
              obtain ⟨m, h1, h2, h3⟩ := h
              have : m = wd := by omega
              rw [this] at h2
              exact ⟨h2, h3⟩))
            have HRB := Lib.hid (fun W => (rbytes_any r his W).mono fun e w' h => (show e = .returned (.slice (some ⟨W.heap.size, 0, none⟩) mb mb) ∧ Below W.heap.size W w' from by
              obtain ⟨n, hn, h1, h2⟩ := h
              rw [hmb, ← hn]
              exact ⟨h1, h2 ▸ (Below.refl _ _).alloc (Nat.le_refl _) _⟩))
            obtain ⟨hl1, hl2, -⟩ := hel
            obtain ⟨hw1, hw2⟩ := hwp
            have hki2 : (k : Int) < N := by omega
            have HG := Lib.hid (fun (W : World) (hb : Below wr.heap.size wr W) => (hb.cell (p := ⟨g, oo + k, none⟩) (by show g < _; omega)).trans c0)
            clear hr d0 hrk his he hmb hwd
            go_wp2_with (first | (go_at_call 56; with_reducible (refine (HU.out _).mono ?_); rintro e w2 ⟨rfl, hb2⟩; have c2 := HG.out _ hb2; have HB2 := Lib.hid (HB.out.trans (hb2.mono hsz)); have hs2 := hb2.size; clear hb2) | (go_at_call 60; with_reducible (refine (HRB.out _).mono ?_); rintro e w3 ⟨rfl, hb3⟩; have HB3 := Lib.hid (HB2.out.trans (hb3.mono HB2.out.size)); clear hb3))
            go_roundw
            case rel => exact ⟨k + 1, u + wd, o + mb, rfl, rfl, by go_num, by omega, by omega, by omega, by omega, by omega, HB3.out, fun _ => HEX.out, fun h => absurd h (by omega)⟩
            case measure => simp [RowKit.intOf]; omega
        · have hki2 : ¬ (k : Int) < N := by omega
          have hkN2 : k = N := by omega
          rw [List.drop_eq_nil_of_le (by have := HN.out; omega), unit_nil] at he
          by_cases hun : o = want
          · rw [if_pos hun] at he
            have HEX := Lib.hid he
            clear he
            go_wp2
            go_ret2
            exact ⟨by rw [if_pos HV.out, ← HRS.out, HEX.out]; rfl, HBW.out⟩
          · rw [if_neg hun] at he
            have HEX := Lib.hid he
            clear he
            go_wp2
            go_roundw
            case rel => exact ⟨k + 1, u, o, rfl, rfl, by go_num, by omega, by omega, by omega, by omega, by omega, HB.out, fun h => absurd h (by omega), fun _ => HEX.out⟩
            case measure => simp [RowKit.intOf]; omega
      · have hki : ¬ (k : Int) ≤ N := by omega
        have HEX := Lib.hid (HX.out (by omega))
        go_wp2
        go_ret2
        exact ⟨by rw [if_pos HV.out, ← HRS.out, HEX.out]; rfl, HBW.out⟩
end Go.Proofs.YtdeihlbnlogjcaaDoor
