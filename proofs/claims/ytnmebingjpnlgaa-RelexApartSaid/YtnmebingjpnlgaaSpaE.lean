/- RelexApart answers true: the walk. -/
import Derived.Test.YtnmebingjpnlgaaSpaD
namespace Go.Proofs.Ytnmebingjpnlgaa
open Go.RowKit Go.Lib
set_option maxRecDepth 100000
set_option linter.unusedVariables false
set_option linter.unusedSectionVars false

set_option maxHeartbeats 1000000 in
theorem relexApart_walk (a0 : ByteArray) (w : World) (w0 : a0.size ≤ maxLen) : Calls Try.prog 7 #[.string a0] w (TruePost w) := by
  unfold maxLen at w0
  by_cases hsz : a0.size ≤ 20000
  · have hri := rises_toks a0 _ 0 (Lx.lex_chain a0.data.toList)
    obtain ⟨its, hits⟩ : ∃ its, its = (Lx.lexF a0.data.toList).map toIT := ⟨_, rfl⟩
    obtain ⟨p, hp⟩ : ∃ p, p = isB a0 [59, 59] := ⟨_, rfl⟩
    obtain ⟨sp, hsp⟩ : ∃ sp, sp = spansF p its := ⟨_, rfl⟩
    rw [← hits, ← hp] at hri
    have hgood := spans_good p a0.size its (by omega) hri
    rw [← hsp] at hgood
    have GOOD := Lib.hid hgood
    have RI := Lib.hid hri
    have HITS := Lib.hid hits
    have HP := Lib.hid hp
    have HSP := Lib.hid hsp
    have hcnt := lex_count a0.data.toList
    rw [← sz] at hcnt
    have hil : its.length ≤ 20000 := by rw [hits, List.length_map]; omega
    have hspl : sp.length ≤ its.length := by rw [hsp]; exact (sp_count p its).1
    clear hgood hri hits hp hsp hcnt
    go_enter Try.func7, Try.ntmps7
    go_wp2_with fail
    refine (alive_any _).mono ?_
    rintro e w1 ⟨rfl, hb1⟩
    go_wp2_with fail
    refine (lex_any _ (by omega) _).mono ?_
    rintro e w2 ⟨v, rfl, hown, hb2⟩
    have hr2 := Rd.of_own hown
    rw [its_toks, ← HITS.out, show (Lx.lexF a0.data.toList).length = its.length by rw [HITS.out, List.length_map]] at hr2
    have HB := Lib.hid (hb1.trans (hb2.mono hb1.size))
    have HR2 := Lib.hid hr2
    clear hown hb1 hb2
    go_wp2_with fail
    refine (spans_any a0 v its w2 _ (Nat.le_refl _) hr2 (by omega) (by omega)).mono ?_
    rintro e w3 ⟨v3, rfl, hown3, hb3⟩
    rw [← HP.out, ← HSP.out] at hown3
    have HR3 := Lib.hid (Rd.of_own hown3)
    obtain ⟨-, A, c, rfl, hc, hr⟩ := hr2
    obtain ⟨-, A3, c3, rfl, hc3, hr3⟩ := HR3.out
    have HRT := Lib.hid (hr)
    have HRS := Lib.hid (hr3)
    have HB3 := Lib.hid hb3
    have hs23 := hb3.size
    obtain ⟨n, hn⟩ : ∃ n, n = its.length := ⟨_, rfl⟩
    obtain ⟨m, hm⟩ : ∃ m, m = sp.length := ⟨_, rfl⟩
    rw [← hn] at HRT hc hil hspl ⊢
    rw [← hm] at HRS hc3 hspl ⊢
    have HN := Lib.hid hn
    have HM := Lib.hid hm
    clear hown3 hb3 hr hr3 HR2 HR3 hn hm
    go_wp2
    go_loopw [5, 6] (fun kv i wr => ∃ k j : Nat, k ≤ n ∧ i = .int .i64 k ∧ kv = .int .i64 j ∧ j ≤ m ∧ Ptr p sp its k j ∧ Below w3.heap.size w3 wr) (fun _ i _ => n - (intOf i).toNat)
    case atStart => exact ⟨0, 0, by omega, rfl, rfl, by omega, fun _ _ _ _ _ _ _ => by omega, Below.refl _ _⟩
    case round =>
      obtain ⟨k, j, hk, rfl, rfl, hj, hptr, hbr⟩ := hrel
      have HPT := Lib.hid hptr
      have HBR := Lib.hid hbr
      have hszr := hbr.size
      clear hptr hbr
      by_cases hlt : k < n
      · obtain ⟨g, o, rfl, hg, hr⟩ := HRT.out (by omega)
        obtain ⟨t, ht, d0, d1, d2⟩ := rd_it hr HN.out hlt
        have HC := Lib.hid (show ∀ j < 3, wr.cell? ⟨g, o + k * 3 + j, none⟩ = w2.cell? ⟨g, o + k * 3 + j, none⟩ from fun j _ => (HBR.out.cell (p := ⟨g, o + k * 3 + j, none⟩) (by show g < _; omega)).trans (HB3.out.cell (p := ⟨g, o + k * 3 + j, none⟩) (by show g < _; omega)))
        have c0 := (HC.out 0 (by omega)).trans d0
        have c1 := (HC.out 1 (by omega)).trans d1
        have c2 := (HC.out 2 (by omega)).trans d2
        rw [Nat.add_zero] at c0
        have HD1 := Lib.hid d1
        have HD2 := Lib.hid d2
        have HT := Lib.hid ht
        have hkn : (k : Int) < n := by omega
        clear hr ht d0 d1 d2
        have HI := Lib.hid (fun W => is_any a0 t { data := #[59, 59] } W (by omega))
        cases hE : p t
        · have HI0 := Lib.hid (fun W => (HI.out W).mono fun e w' h => ((⟨h.1.trans (by rw [semi2, ← HP.out, hE]), h.2⟩ : e = .returned (.bool false) ∧ Below W.heap.size W w')))
          have HE := Lib.hid hE
          clear hE
          go_wp2_with (first | (go_at_call 18; with_reducible (refine (HI0.out _).mono ?_); rintro e w4 ⟨rfl, hb⟩; have HBB := Lib.hid hb; clear hb))
          have hmem := List.mem_of_getElem? HT.out
          obtain ⟨j0, hat⟩ := at_of GOOD.out.1.2 (rises_lt its 0 RI.out t hmem) (GOOD.out.2 t hmem HE.out)
          have hj0 : j ≤ j0 := HPT.out k t j0 (Nat.le_refl _) HT.out HE.out hat
          have hj0m : j0 < m := by
            obtain ⟨x, hx, _⟩ := hat
            rw [HM.out]
            exact (List.getElem?_eq_some_iff.1 hx).1
          have HAT := Lib.hid hat
          clear hmem hat c0 c1 c2
          have e1 : w4.cell? ⟨g, o + k * 3 + 1, none⟩ = _ := (HBB.out.cell (p := ⟨g, o + k * 3 + 1, none⟩) (by show g < _; omega)).trans ((HC.out 1 (by omega)).trans HD1.out)
          have e2 : w4.cell? ⟨g, o + k * 3 + 2, none⟩ = _ := (HBB.out.cell (p := ⟨g, o + k * 3 + 2, none⟩) (by show g < _; omega)).trans ((HC.out 2 (by omega)).trans HD2.out)
          obtain ⟨g3, o3, rfl, hg3, hr3⟩ := HRS.out (by omega)
          have HR3 := Lib.hid hr3
          clear hr3
          have HB4 := Lib.hid (HBR.out.trans (HBB.out.mono hszr))
          have E1 := Lib.hid e1
          have E2 := Lib.hid e2
          clear e1 e2
          go_loopw [5] (fun kv wx => ∃ jj q : Nat, kv = .int .i64 jj ∧ jj ≤ j0 ∧ wx = w4.drewN q) (fun kv _ => j0 - (intOf kv).toNat)
          case atStart => exact ⟨j, 0, rfl, hj0, rfl⟩
          case round =>
            obtain ⟨jj, q, rfl, hjj, rfl⟩ := hrel
            obtain ⟨x, hx⟩ : ∃ x, sp[jj]? = some x := ⟨_, List.getElem?_eq_getElem (by have := HM.out; omega)⟩
            obtain ⟨f0, f1⟩ := rd_sp HR3.out HM.out hx
            have f0' : w4.cell? ⟨g3, o3 + jj * 2, none⟩ = _ := (HB4.out.cell (p := ⟨g3, o3 + jj * 2, none⟩) (by show g3 < _; omega)).trans f0
            have f1' : w4.cell? ⟨g3, o3 + jj * 2 + 1, none⟩ = _ := (HB4.out.cell (p := ⟨g3, o3 + jj * 2 + 1, none⟩) (by show g3 < _; omega)).trans f1
            have e1' : w4.cell? ⟨g, o + k * 3 + 1, none⟩ = _ := E1.out
            have e2' : w4.cell? ⟨g, o + k * 3 + 2, none⟩ = _ := E2.out
            have hjm : (jj : Int) < m := by omega
            have hjb : ((jj : Int) == m) = false := by simp; omega
            have HX := Lib.hid hx
            clear hx f0 f1
            by_cases hlast : x.2 < t.b
            · go_wp2
              go_quiet (fail)
              go_wp2
              go_roundw
              case rel =>
                refine ⟨jj + 1, q + nq, by go_num, ?_, rfl⟩
                obtain ⟨y, hy, _, hy2, _⟩ := HAT.out
                rcases Nat.lt_or_ge jj j0 with h | h
                · exact h
                · obtain rfl : jj = j0 := by omega
                  rw [HX.out] at hy
                  obtain rfl := Option.some.inj hy
                  omega
              case measure =>
                obtain ⟨y, hy, _, hy2, _⟩ := HAT.out
                have hne : jj ≠ j0 := by
                  rintro rfl
                  rw [HX.out] at hy
                  obtain rfl := Option.some.inj hy
                  omega
                simp [intOf]
                omega
            · have hjj0 : jj = j0 := by
                obtain ⟨y, hy, _, hy2, hy3⟩ := HAT.out
                rcases Nat.lt_or_ge jj j0 with h | h
                · exact absurd (hy3 jj x h HX.out) hlast
                · omega
              have hx1 : x.1 ≤ t.a := by
                obtain ⟨y, hy, hy1, _⟩ := HAT.out
                rw [← hjj0, HX.out] at hy
                obtain rfl := Option.some.inj hy
                exact hy1
              subst hjj0
              go_wp2
              go_quiet (fail)
              go_wp2
              go_quiet (fail)
              go_wp2
              go_roundw
              case rel =>
                refine ⟨k + 1, jj, by omega, by go_num, rfl, by omega, ptr_at (fun i' u hi hu => pair_get (rises_pair its 0 RI.out).2 hi HT.out hu) HAT.out, ?_⟩
                exact below_drewN HB4.out _
              case measure => simp [intOf]; omega
        · have HI1 := Lib.hid (fun W => (HI.out W).mono fun e w' h => ((⟨h.1.trans (by rw [semi2, ← HP.out, hE]), h.2⟩ : e = .returned (.bool true) ∧ Below W.heap.size W w')))
          clear hE
          go_wp2_with (first | (go_at_call 18; with_reducible (refine (HI1.out _).mono ?_); rintro e w4 ⟨rfl, hb⟩; have HBB := Lib.hid hb; clear hb))
          go_roundw
          case rel => exact ⟨k + 1, j, by omega, by go_num, rfl, hj, ptr_skip HPT.out, HBR.out.trans (HBB.out.mono hszr)⟩
          case measure => simp [intOf]; omega
      · go_wp2
        go_loopw [7] (fun i wx => ∃ k q : Nat, k ≤ m ∧ i = .int .i64 k ∧ wx = wr.drewN q) (fun i _ => m - (intOf i).toNat)
        case atStart => exact ⟨0, 0, by omega, rfl, rfl⟩
        case round =>
          obtain ⟨k', q, hk', rfl, rfl⟩ := hrel
          by_cases hlt' : k' < m
          · obtain ⟨g3, o3, rfl, hg3, hr3⟩ := HRS.out (by omega)
            obtain ⟨x, hx⟩ : ∃ x, sp[k']? = some x := ⟨_, List.getElem?_eq_getElem (by have := HM.out; omega)⟩
            obtain ⟨f0, f1⟩ := rd_sp hr3 HM.out hx
            obtain ⟨b1, b2, b3⟩ := GOOD.out.1.1 x (List.mem_of_getElem? hx)
            have f0' : wr.cell? ⟨g3, o3 + k' * 2, none⟩ = _ := (HBR.out.cell (p := ⟨g3, o3 + k' * 2, none⟩) (by show g3 < _; omega)).trans f0
            have f1' : wr.cell? ⟨g3, o3 + k' * 2 + 1, none⟩ = _ := (HBR.out.cell (p := ⟨g3, o3 + k' * 2 + 1, none⟩) (by show g3 < _; omega)).trans f1
            have hkm : (k' : Int) < m := by omega
            have HX := Lib.hid hx
            clear hx f0 f1
            have t1 : decide (x.1 < 0) = false := by simp; omega
            have t2 : decide (x.2 ≤ x.1) = false := by simp; omega
            have t3 : decide ((a0.size : Int) < x.2) = false := by simp; omega
            clear b1 b2 b3
            rcases Nat.eq_zero_or_pos k' with rfl | hpos
            · clear hr3
              rw [Nat.zero_mul, Nat.add_zero] at f0' f1'
              go_wp2
              go_quiet (fail)
              go_wp2
              go_roundw
              case rel => exact ⟨1, q + nq, by omega, by go_num, rfl⟩
              case measure => simp [intOf]; omega
            · obtain ⟨k2, rfl⟩ : ∃ k2, k' = k2 + 1 := ⟨k' - 1, by omega⟩
              obtain ⟨y, hy⟩ : ∃ y, sp[k2]? = some y := ⟨_, List.getElem?_eq_getElem (by have := HM.out; omega)⟩
              obtain ⟨-, h1⟩ := rd_sp hr3 HM.out hy
              have h1' : wr.cell? ⟨g3, o3 + k2 * 2 + 1, none⟩ = _ := (HBR.out.cell (p := ⟨g3, o3 + k2 * 2 + 1, none⟩) (by show g3 < _; omega)).trans h1
              have hgap := gap_get GOOD.out.1.2 hy HX.out
              obtain ⟨y1, y2, y3⟩ := GOOD.out.1.1 y (List.mem_of_getElem? hy)
              clear hr3 hy h1 hkm
              have hkm : (k2 : Int) + 1 < m := by omega
              have hk0 : 0 ≤ (k2 : Int) + 1 := by omega
              have hk1 : (k2 : Int) < m := by omega
              have t4 : decide (x.1 < y.2 + 2) = false := by simp; omega
              have t5 : decide (0 < (k2 : Int) + 1) = true := by simp
              have hw1 : IntKind.i64.wrap (k2 : Int) = k2 := IntWalk.i64_in _ (by omega)
              have hw2 : IntKind.i64.wrap (y.2 + 2) = y.2 + 2 := IntWalk.i64_in _ (by omega)
              go_wp2
              go_quiet (fail)
              go_wp2
              go_roundw
              case rel => exact ⟨k2 + 1 + 1, q + nq, by omega, by go_num, rfl⟩
              case measure => simp [intOf]; omega
          · have HD := Lib.hid (below_drewN (HB.out.trans ((HB3.out.trans (HBR.out.mono HB3.out.size)).mono HB.out.size)) q)
            go_wp2
            go_ret
            exact ⟨rfl, HD.out⟩
  · go_enter Try.func7, Try.ntmps7
    go_wp2_with fail
    refine (alive_any _).mono ?_
    rintro e w1 ⟨rfl, hb1⟩
    go_wp2_with fail
    all_goals (go_ret; exact ⟨rfl, hb1⟩)
end Go.Proofs.Ytnmebingjpnlgaa
