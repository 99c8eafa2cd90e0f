/- RelexRows answers true: the walk. -/
import Derived.Test.YtnmebingjpnlgaaRowA
import Derived.Deep.RegionWith
namespace Go.Proofs.Ytnmebingjpnlgaa
open Go.RowKit Go.Lib
set_option maxRecDepth 100000
set_option linter.unusedVariables false
set_option linter.unusedSectionVars false

theorem ct_news {W : World} (t : TypeId) (a b : Int) (m : ByteArray) : ∀ (j : Nat) (u : Value), ([.int .i64 a, .int .i64 b, .string m] : List Value)[j]? = some u → (W.alloc (.cells #[.int .i64 a, .int .i64 b, .string m] t)).cell? ⟨W.heap.size, j, none⟩ = some u := by
  intro j u h
  rw [cell_of_row _ W.heap.size j _ t (0, 0) (heap_alloc_new W _)]
  simpa using h
theorem BR2 {wr w3 : World} {o : Obj} {B : Nat} (h : B ≤ wr.heap.size) (hb : Below (wr.alloc o).heap.size (wr.alloc o) w3) : Below wr.heap.size wr w3 :=
  ((Below.refl _ _).alloc (Nat.le_refl _) _).trans (hb.mono (by simp))
theorem same_self {W : World} {B B3 : Nat} {v v3 : Value} {ts : List Lx.Tok} (h3 : Rd W B3 3 v3 ts.length (toksCells ts)) (h : Rd W B 3 v ts.length (toksCells ts)) (hb : ts.length ≤ 1152921504606846976) :
    Calls Try.prog 13 #[v3, v] W fun e w'' => e = .returned (.bool true) ∧ ∃ m, w'' = W.drewN m := by
  refine (sameTokens_any _ _ ts ts W _ _ h3 h hb hb).mono ?_
  rintro e w' ⟨rfl, m, rfl⟩
  exact ⟨by simp, m, rfl⟩
/-- fronts that are alike. -/
theorem same_fronts {W : World} {q B B3 n n3 f c c3 : Nat} {A A3 : Option Addr} {ts ts3 : List Lx.Tok} (h : Rd W B 3 (.slice A n c) ts.length (toksCells ts)) (h3 : Rd W B3 3 (.slice A3 n3 c3) ts3.length (toksCells ts3))
    (hn : n = ts.length) (hn3 : n3 = ts3.length) (hf : f ≤ n) (hf3 : f ≤ n3) (he : ts3.take f = ts.take f) (hb : n ≤ 1152921504606846976) (hb3 : n3 ≤ 1152921504606846976) :
    Calls Try.prog 13 #[.slice A3 f c3, .slice A f c] (W.drewN q) fun e w'' => e = .returned (.bool true) ∧ ∃ m, w'' = W.drewN m := by
  subst hn hn3
  refine Calls.quiet_of ((sameTokens_any _ _ (ts3.take f) (ts.take f) (W.drewN q) _ _ ((rd_front h3 rfl hf3).drewN q) ((rd_front h rfl hf).drewN q) (by rw [List.length_take]; omega) (by rw [List.length_take]; omega)).mono ?_)
  rintro e w' ⟨rfl, m, rfl⟩
  refine ⟨?_, m, rfl⟩
  rw [he]
  simp
set_option maxHeartbeats 4000000 in
theorem relexRows_walk (a0 : ByteArray) (v1 : Value) (ts : List CT) (w : World) (w0 : a0.size ≤ maxLen) (w1 : ArgC w v1 ts) : Calls Try.prog 5 #[.string a0, v1] w (TruePost w) := by
  unfold maxLen at w0
  obtain ⟨⟨hrd, -⟩, hml⟩ := w1
  obtain ⟨-, A, c, rfl, hc, hr⟩ := hrd
  obtain ⟨n, hn⟩ : ∃ n, n = ts.length := ⟨_, rfl⟩
  rw [← hn] at hr hc ⊢
  have HN := Lib.hid hn
  have HR := Lib.hid hr
  have HML := Lib.hid hml
  clear hn hr hml
  by_cases hsz : a0.size ≤ 3000 ∧ n ≤ 30
  · obtain ⟨hs1, hs2⟩ := hsz
    go_enter Try.func5, Try.ntmps5
    go_wp2_with fail
    refine (alive_any _).mono ?_
    rintro e w1 ⟨rfl, hb1⟩
    have B1 := Lib.hid hb1
    clear hb1
    go_wp2_with fail
    refine (lex_any _ (by omega) _).mono ?_
    rintro e w2 ⟨v, rfl, hown, hb2⟩
    have T2 := Lib.hid (TokV.of_own hown)
    have B2 := Lib.hid (B1.out.trans (hb2.mono B1.out.size))
    clear hown hb2
    go_wp2
    go_loopw [0, 5, 6] (fun sv tv iv wr => ∃ (k : Nat) (S : ByteArray), k ≤ n ∧ iv = .int .i64 k ∧ sv = .string S ∧ S.size ≤ 3000 + 300 * k ∧ TokV S tv wr ∧ Below w.heap.size w wr) (fun _ _ i _ => n - (intOf i).toNat)
    case atStart => exact ⟨0, a0, by omega, rfl, rfl, by omega, T2.out, B2.out⟩
    case round =>
      obtain ⟨k, S, hk, rfl, rfl, hS, htv, hbr⟩ := hrel
      have TV := Lib.hid htv
      have BR := Lib.hid hbr
      have hszr := hbr.size
      clear htv hbr
      by_cases hlt : k < n
      · obtain ⟨g, o, rfl, hg, hr⟩ := HR.out (by omega)
        obtain ⟨t, ht, d0, d1, d2⟩ := rd_ct hr HN.out hlt
        have c0 := (BR.out.cell (p := ⟨g, o + k * 3, none⟩) hg).trans d0
        have c1 := (BR.out.cell (p := ⟨g, o + k * 3 + 1, none⟩) hg).trans d1
        have c2 := (BR.out.cell (p := ⟨g, o + k * 3 + 2, none⟩) hg).trans d2
        have hkn : (k : Int) < n := by omega
        have hm := HML.out t (List.mem_of_getElem? ht)
        unfold maxLen at hm
        clear hr ht d0 d1 d2
        obtain ⟨ta, tb, tm⟩ := t
        simp only at c0 c1 c2 hm
        by_cases hm3 : tm.size ≤ 300
        · by_cases hok : (0 ≤ ta ∧ ta ≤ tb) ∧ tb ≤ S.size
          · obtain ⟨⟨ha, hb⟩, hc'⟩ := hok
            obtain ⟨fr, rfl⟩ := Int.eq_ofNat_of_zero_le ha
            obtain ⟨to, rfl⟩ := Int.eq_ofNat_of_zero_le (show 0 ≤ tb by omega)
            have g2 : fr ≤ to := by omega
            have g3 : to ≤ S.size := by omega
            have hREL := Lib.hid (fun v W (hT : TokV S v W) => relex_own S tm v fr to W W.heap.size (Nat.le_refl _) hT.1 hT.2 (by omega) (by omega) g2 g3)
            clear ha hb hc'
            have hsum := sum_le S.data.toList tm.data.toList fr to g2 (by rw [← sz]; exact g3)
            have HFT := Lib.hid (front_take S.data.toList tm.data.toList fr to g2 (by rw [← sz]; exact g3))
            have HCB := Lib.hid (cut_bytes S tm fr to)
            have hcl := lex_count (Lx.cutL S.data.toList tm.data.toList fr to)
            rw [← cut_bytes, ← sz] at hcl
            have hcs := cut_bytes_size S tm fr to g2 g3
            obtain ⟨f, hf⟩ : ∃ f, f = frontN S.data.toList fr := ⟨_, rfl⟩
            obtain ⟨en, hen⟩ : ∃ en, en = endN S.data.toList tm.data.toList fr to := ⟨_, rfl⟩
            obtain ⟨nv, Av, cv, hnv, hv, hcv, hA⟩ := TV.out.form
            have HREL2 := Lib.hid (hREL.out _ (wr.alloc (.cells #[.int .i64 fr, .int .i64 to, .string tm] 39)) (TV.out.below ((Below.refl _ _).alloc (Nat.le_refl _) _)))
            rw [← hf, ← hen, ← hnv, ← cut_bytes] at hsum
            have HF := Lib.hid hf
            have HEN := Lib.hid hen
            have HNV := Lib.hid hnv
            obtain ⟨hsum1, hsum2⟩ := hsum
            have hnvb : nv ≤ 100000 := by
              have h := lex_count S.data.toList
              rw [← sz, ← hnv] at h
              omega
            clear hf hen hnv
            subst hv
            rcases hA with rfl | ⟨gv, ov, rfl⟩
            all_goals
              go_wp2_with fail
              refine HREL2.out.mono ?_
              rintro e w3 ⟨v3, rfl, hown3, hb3⟩
              rw [← HF.out, ← HEN.out]
              rw [← HCB.out] at hown3
              have TV3 := Lib.hid (TokV.of_own hown3)
              have HB3 := Lib.hid hb3
              have x0 := (hb3.cell (p := ⟨wr.heap.size, 0, none⟩) (by simp)).trans (ct_news _ _ _ _ 0 _ rfl)
              have x1 := (hb3.cell (p := ⟨wr.heap.size, 1, none⟩) (by simp)).trans (ct_news _ _ _ _ 1 _ rfl)
              have x2 := (hb3.cell (p := ⟨wr.heap.size, 2, none⟩) (by simp)).trans (ct_news _ _ _ _ 2 _ rfl)
              clear hown3 hb3
              obtain ⟨n3, A3, c3, hn3, hv3, hc3, hA3⟩ := TV3.out.form
              have hs2' : f + en ≤ n3 := by rw [hn3]; exact hsum2
              have hn3b : n3 ≤ 100000 := by omega
              have HN3 := Lib.hid hn3
              clear hn3
              subst hv3
              have t1 : decide ((f : Int) < 0) = false := by simp
              have t2 : decide ((en : Int) < 0) = false := by simp
              have t3 : decide ((nv : Int) < (f : Int) + en) = false := by simp; omega
              have t4 : decide ((n3 : Int) < (f : Int) + en) = false := by simp; omega
              have hw1 : IntKind.i64.wrap ((f : Int) + en) = f + en := IntWalk.i64_in _ (by omega)
              have HSM := Lib.hid (fun q : Nat => same_fronts (W := w3) (q := q) (TV.out.1.below (BR2 hszr HB3.out)) TV3.out.1 HNV.out HN3.out (by omega) (by omega) (HCB.out ▸ HF.out ▸ HFT.out) (by omega) (by omega))
              rcases hA3 with rfl | ⟨g3, o3, rfl⟩
              all_goals
                go_wp2
                go_quiet ((go_at_call 13; exact HSM.out _))
                go_wp2
                go_quiet (fail)
                go_wp2_with fail
                refine (lex_any (S.extract 0 fr ++ tm ++ S.extract to S.size) (by omega) _).mono ?_
                rintro e w6 ⟨v6, rfl, hown6, hb6⟩
                have T36 := Lib.hid (TV3.out.below ((below_drewN (Below.refl _ _) _).trans hb6))
                have R6 := Lib.hid (Rd.of_own hown6)
                have B6 := Lib.hid (BR.out.trans (((BR2 hszr HB3.out).trans ((below_drewN (Below.refl _ _) _).trans (hb6.mono (by have := (BR2 hszr HB3.out).size; simp; omega)))).mono hszr))
                clear hown6 hb6
                go_wp2_with fail
                refine (same_self T36.out.1 R6.out (by rw [← HN3.out]; omega)).mono ?_
                rintro e w7 ⟨rfl, q7, rfl⟩
                go_wp2
                go_roundw
                case rel => exact ⟨k + 1, _, by omega, by go_num, rfl, by omega, T36.out.below (below_drewN (Below.refl _ _) _), below_drewN B6.out _⟩
                case measure => simp [intOf]; omega
          · have hREL := Lib.hid (fun v W => relex_bad S tm v ta tb W (by omega))
            go_wp2_with (first | (go_at_call 11; with_reducible (refine (hREL.out _ _).mono ?_); rintro e w3 ⟨rfl, rfl⟩))
            all_goals
              go_roundw
              case rel => exact ⟨k + 1, S, by omega, by go_num, rfl, by omega, TV.out.below ((Below.refl _ _).alloc (Nat.le_refl _) _), BR.out.alloc hszr _⟩
              case measure => simp [intOf]; omega
        · go_wp2
          go_ret
          exact ⟨rfl, BR.out.alloc hszr _⟩
      · go_wp2
        go_ret
        exact ⟨rfl, BR.out⟩
  · go_enter Try.func5, Try.ntmps5
    go_wp2_with fail
    refine (alive_any _).mono ?_
    rintro e w1 ⟨rfl, hb1⟩
    by_cases h1 : a0.size ≤ 3000
    · have h2 : ¬ n ≤ 30 := fun h => hsz ⟨h1, h⟩
      clear hsz
      go_wp2
      all_goals (go_ret; exact ⟨rfl, hb1⟩)
    · clear hsz
      go_wp2
      all_goals (go_ret; exact ⟨rfl, hb1⟩)
end Go.Proofs.Ytnmebingjpnlgaa
