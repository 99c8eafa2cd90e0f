/- The contract of the document's Relex. -/
import Derived.Test.YtnmebingjpnlgaaSpaD
import Derived.Test.YtnmebingjpnlgaaRowA
import Derived.Deep.RegionWith
namespace Go.Proofs.Ytnmebingjpnlgaa
open Go.RowKit Go.Lib
set_option maxRecDepth 100000
set_option linter.unusedVariables false
set_option linter.unusedSectionVars false

theorem rrelex_bad (s more : ByteArray) (v1 : Value) (fr to : Int) (w : World) (hbad : fr < 0 ∨ to < fr ∨ (s.size : Int) < to) :
    Calls Try.prog 12 #[.string s, v1, .int .i64 fr, .int .i64 to, .string more] w fun e w' => e = .returned (.tuple #[.slice none 0 0, .int .i64 0, .int .i64 0, .int .i64 70]) ∧ w = w' := by
  by_cases h1 : fr < 0
  · go_enter Try.func12, Try.ntmps12
    go_wp2
    ((try simp only [Exit.inBlock, Exit.then]); refine bodyPost_ret (results_tmp4 rfl _ _ _) rfl ?_)
    exact ⟨rfl, rfl⟩
  · by_cases h2 : to < fr
    · go_enter Try.func12, Try.ntmps12
      go_wp2
      ((try simp only [Exit.inBlock, Exit.then]); refine bodyPost_ret (results_tmp4 rfl _ _ _) rfl ?_)
      exact ⟨rfl, rfl⟩
    · have h3 : (s.size : Int) < to := by omega
      go_enter Try.func12, Try.ntmps12
      go_wp2
      ((try simp only [Exit.inBlock, Exit.then]); refine bodyPost_ret (results_tmp4 rfl _ _ _) rfl ?_)
      exact ⟨rfl, rfl⟩
theorem front_eq (s : ByteArray) (fr k : Nat) (hk : k ≤ (Lx.lexF s.data.toList).length) (h : ∀ t ∈ (Lx.lexF s.data.toList).take k, ahead fr t = true)
    (he : k = (Lx.lexF s.data.toList).length ∨ ∃ t, (Lx.lexF s.data.toList)[k]? = some t ∧ ahead fr t = false) : k = frontN s.data.toList fr := by
  have hp := (rises_pair _ _ (rises_toks s _ 0 (Lx.lex_chain s.data.toList))).2
  rw [List.pairwise_map] at hp
  unfold frontN
  obtain ⟨ts, hts⟩ : ∃ ts, ts = Lx.lexF s.data.toList := ⟨_, rfl⟩
  rw [← hts] at hk h he hp ⊢
  have e1 : (ts.take k).countP (ahead fr) = k := by
    rw [List.countP_eq_length.2 h, List.length_take]
    omega
  have e2 : (ts.drop k).countP (ahead fr) = 0 := by
    rcases he with he | ⟨t, ht, hf⟩
    · rw [he, List.drop_length]; rfl
    · rw [List.countP_eq_zero]
      intro u hu
      have hd := List.Pairwise.drop (i := k) hp
      rw [Lx.drop_some ht] at hd hu
      simp only [ahead, decide_eq_false_iff_not, decide_eq_true_eq] at hf ⊢
      rcases List.mem_cons.1 hu with rfl | hu
      · exact hf
      · have := (List.pairwise_cons.1 hd).1 u hu
        simp only [toIT] at this
        omega
  conv => rhs; rw [← List.take_append_drop k ts]
  rw [List.countP_append, e1, e2]
  rfl
theorem ahead_snoc {fr : Nat} {ts : List Lx.Tok} {k : Nat} {t : Lx.Tok} (h : ∀ t ∈ ts.take k, ahead fr t = true) (ht : ts[k]? = some t) (ha : ahead fr t = true) : ∀ t ∈ ts.take (k + 1), ahead fr t = true := by
  intro u hu
  rw [List.take_add_one, ht] at hu
  rcases List.mem_append.1 hu with hu | hu
  · exact h u hu
  · obtain rfl : u = t := by simpa using hu
    exact ha
theorem rr_fin {L M : List UInt8} {fr to k j m : Nat} {us : List Lx.Tok} {w w1 we : World} {v2 : Value} (hf : k = frontN L fr) (hE : endN L M fr to = j) (hus : us = Lx.lexF (Lx.cutL L M fr to)) (hm : m = us.length) (ho : w1.ownsRow w.heap.size 27 3 v2 m (toksCells us))
    (hb1 : Below w.heap.size w w1) (hbe : Below w1.heap.size w1 we) : RelexPost L M fr to w (.returned (.tuple #[v2, .int .i64 (k : Int), .int .i64 (j : Int), .int .i64 0])) we := by
  subst hf hE hm hus
  exact ⟨v2, rfl, own_below ho hbe, hb1.trans (hbe.mono hb1.size)⟩
theorem rlex_x (s : ByteArray) (hs : s.size ≤ 1099511627776) (W : World) : Calls Try.prog 9 #[.string s] W fun e w' => ∃ v, e = .returned v ∧ RowKit.Hid (w'.ownsRow W.heap.size 27 3 v (Lx.lexF s.data.toList).length (toksCells (Lx.lexF s.data.toList))) ∧ Below W.heap.size W w' := rlex_any s hs W
set_option maxHeartbeats 4000000 in
theorem rrelex_some (s more : ByteArray) (v1 : Value) (fr to : Nat) (w : World) (h1 : Rd w w.heap.size 3 v1 (Lx.lexF s.data.toList).length (toksCells (Lx.lexF s.data.toList)))
    (hs : s.size ≤ 1073741824) (hm : more.size ≤ 1073741824) (g2 : fr ≤ to) (g3 : to ≤ s.size) :
    Calls Try.prog 12 #[.string s, v1, .int .i64 (fr : Int), .int .i64 (to : Int), .string more] w (RelexPost s.data.toList more.data.toList fr to w) := by
  obtain ⟨-, A, c, rfl, hc, hr⟩ := h1
  have hnl := lex_count s.data.toList
  rw [← sz] at hnl
  obtain ⟨ts, hts⟩ : ∃ ts, ts = Lx.lexF s.data.toList := ⟨_, rfl⟩
  obtain ⟨n, hn⟩ : ∃ n, n = ts.length := ⟨_, rfl⟩
  rw [← hts, ← hn] at hr hc hnl ⊢
  have HFE := Lib.hid (front_eq s fr)
  rw [← hts, ← hn] at HFE
  have HTS := Lib.hid hts
  have HN := Lib.hid hn
  have HR := Lib.hid hr
  clear hts hn hr
  have hcl := lex_count (Lx.cutL s.data.toList more.data.toList fr to)
  rw [← cut_bytes, ← sz] at hcl
  have hcs := cut_bytes_size s more fr to g2 g3
  have HFM := Lib.hid (front_le2 s.data.toList more.data.toList fr to g2 (by rw [← sz]; exact g3))
  have HCB := Lib.hid (cut_bytes s more fr to)
  have hw3 : IntKind.i64.wrap ((fr : Int) - 1) = fr - 1 := by rw [IntKind.wrap_i64]; omega
  have HLX := Lib.hid (fun W => rlex_x (s.extract 0 fr ++ more ++ s.extract to s.size) (by omega) W)
  have q1 : (fr : Int) ≤ s.size := by omega
  have q2 : (to : Int) ≤ s.size := by omega
  have hwb := Lib.hid (Below.refl w.heap.size w)
  go_enter Try.func12, Try.ntmps12
  go_wp2
  go_region_with (go_at_call 9; with_reducible (refine (HLX.out _).mono ?_); rintro e w1 ⟨v2, rfl, hown2, hb2⟩)
  obtain ⟨us, hus⟩ : ∃ us, us = Lx.lexF (Lx.cutL s.data.toList more.data.toList fr to) := ⟨_, rfl⟩
  obtain ⟨m, hm'⟩ : ∃ m, m = us.length := ⟨_, rfl⟩
  have hown2 := hown2.out
  rw [cut_bytes, ← hus] at hown2
  obtain ⟨-, A2, c2, rfl, hc2, hr2⟩ := Rd.of_own hown2
  rw [cut_bytes, ← hus, ← hm'] at hcl
  rw [← hm'] at hr2 hc2 ⊢
  have HUS := Lib.hid hus
  have HM := Lib.hid hm'
  have HR2 := Lib.hid hr2
  rw [← hm'] at hown2
  have HO2 := Lib.hid (show w1.ownsRow w.heap.size 27 3 _ m (toksCells us) from hown2)
  have HB1 := Lib.hid (show Below w.heap.size w w1 from (Below.drew (Below.refl w.heap.size w)).trans hb2)
  have hsz1 : w.heap.size ≤ w1.heap.size := HB1.out.size
  have HEND : RowKit.Hid (∀ k, k = frontN s.data.toList fr → k ≤ m ∧ ∀ j : Nat, keptR ((more.size : Int) - (to - fr)) to (ts.drop k).reverse (us.drop k).reverse = j → endN s.data.toList more.data.toList fr to = j) := by
    rintro k rfl
    refine ⟨by rw [hm', hus]; exact HFM.out, fun j hj => ?_⟩
    rw [HTS.out, hus] at hj
    unfold endN
    rw [← sz]
    exact hj
  have hmb : m ≤ 2147483648 := by omega
  clear hus hm' hown2 hr2 hb2 hwb HLX hcs hcl
  go_wp2
  go_loop [15] (fun i => ∃ k : Nat, k ≤ n ∧ i = .int .i64 k ∧ RowKit.Hid (∀ t ∈ ts.take k, ahead fr t = true)) (fun i => n - (intOf i).toNat)
  case atStart => exact ⟨0, by omega, rfl, fun _ h => by simp at h⟩
  case round =>
    obtain ⟨k, hk, rfl, hall⟩ := hrel
    by_cases hgo : ∃ t, ts[k]? = some t ∧ ahead fr t = true
    · obtain ⟨t, ht, hat⟩ := hgo
      have hlt : k < n := by have := HN.out; have := (List.getElem?_eq_some_iff.1 ht).1; omega
      obtain ⟨g, o, rfl, hg, hr⟩ := HR.out (by omega)
      obtain ⟨t', ht', d0, d1, d2⟩ := rd_tok hr HN.out hlt
      obtain rfl : t = t' := by rw [ht] at ht'; exact Option.some.inj ht'
      have f2 := (HB1.out.cell (p := ⟨g, o + k * 3 + 2, none⟩) hg).trans d2
      have HA := Lib.hid (ahead_snoc hall.out ht hat)
      have hlt2 : (t.b : Int) < (fr : Int) - 1 := by simpa [ahead] using hat
      clear hr ht ht' d0 d1 d2 hat
      go_wp2
      go_round
      case rel => exact ⟨k + 1, by omega, by go_num, HA⟩
      case measure => simp [intOf]; omega
    · have hend : k = n ∨ ∃ t, ts[k]? = some t ∧ ahead fr t = false := by
        rcases Nat.lt_or_ge k n with h | h
        · have hg := List.getElem?_eq_getElem (l := ts) (i := k) (by have := HN.out; omega)
          exact .inr ⟨_, hg, by rw [← Bool.not_eq_true]; exact fun h => hgo ⟨_, hg, h⟩⟩
        · exact .inl (by omega)
      have hkf := HFE.out k hk hall.out hend
      have HE := Lib.hid (HEND.out k hkf)
      have hkm := HE.out.1
      have HKF := Lib.hid hkf
      have hto : (to : Int) ≤ 1073741824 := by omega
      have hb1 : -2251799813685248 ≤ (more.size : Int) - (to - fr) ∧ (more.size : Int) - (to - fr) ≤ 2251799813685248 := by omega
      obtain ⟨by_, hby⟩ : ∃ by_, by_ = (more.size : Int) - (to - fr) := ⟨_, rfl⟩
      have HBY := Lib.hid hby
      have hw4 : IntKind.i64.wrap ((to : Int) - fr) = to - fr := by rw [IntKind.wrap_i64]; omega
      have hw5 : IntKind.i64.wrap ((more.size : Int) - (to - fr)) = by_ := by rw [IntKind.wrap_i64]; omega
      rw [← hby] at hb1
      clear hby hkf hgo
      by_cases hkn : k < n
      case' pos =>
        have hnot : ∃ t, ts[k]? = some t ∧ ahead fr t = false := by rcases hend with h | h; · omega
                                                                    · exact h
        obtain ⟨g, o, rfl, hg, hr⟩ := HR.out (by omega)
        obtain ⟨t, ht, d0, d1, d2⟩ := rd_tok hr HN.out hkn
        have f2 := (HB1.out.cell (p := ⟨g, o + k * 3 + 2, none⟩) hg).trans d2
        have hge : ¬ (t.b : Int) < (fr : Int) - 1 := by
          obtain ⟨t', ht', hat⟩ := hnot
          rw [ht] at ht'
          obtain rfl := Option.some.inj ht'
          simpa [ahead] using hat
        clear hr ht d0 d1 d2 hnot hend
        go_wp2
        clear f2 hge hg
      case' neg =>
        clear hend
        go_wp2
      all_goals
        clear hkn hw3 hw4 hw5 q1 q2
        go_loopw [17] (fun i wr => ∃ j : Nat, j ≤ n - k ∧ j ≤ m - k ∧ i = .int .i64 j ∧ RowKit.Hid (KeptRel by_ to (ts.drop k) (us.drop k) j) ∧ RowKit.Hid (Below w1.heap.size w1 wr)) (fun i _ => n - (intOf i).toNat)
        case atStart => exact ⟨0, by omega, by omega, rfl, by simp [KeptRel, RowKit.Hid], Below.refl _ _⟩
        case round =>
          obtain ⟨j, hj1, hj2, rfl, HRL, HBR⟩ := hrel
          have hszr : w1.heap.size ≤ wr.heap.size := HBR.out.size
          have hl1 : (ts.drop k).length = n - k := by rw [List.length_drop, ← HN.out]
          have hl2 : (us.drop k).length = m - k := by rw [List.length_drop, ← HM.out]
          have HL1 := Lib.hid hl1
          have HL2 := Lib.hid hl2
          clear hl1 hl2
          by_cases hlt : j < n - k ∧ j < m - k
          · obtain ⟨hlt1, hlt2⟩ := hlt
            obtain ⟨g, o, e, hg, hr⟩ := HR.out (by omega)
            obtain ⟨g2', o2, e2, hg2', hr2⟩ := HR2.out (by omega)
            first | subst e | (simp only [Option.some.injEq, Addr.mk.injEq, and_true] at e; obtain ⟨rfl, rfl⟩ := e)
            subst e2
            obtain ⟨t, ht, d0, d1, d2⟩ := rd_tok hr HN.out (k := n - 1 - j) (by omega)
            obtain ⟨u, hu, f0, f1, f2⟩ := rd_tok hr2 HM.out (k := m - 1 - j) (by omega)
            have HC := Lib.hid (show ∀ i < 3, wr.cell? ⟨g, o + (n - 1 - j) * 3 + i, none⟩ = w.cell? ⟨g, o + (n - 1 - j) * 3 + i, none⟩ from fun i _ => (HBR.out.cell (p := ⟨g, o + (n - 1 - j) * 3 + i, none⟩) (by show g < _; omega)).trans (HB1.out.cell (p := ⟨g, o + (n - 1 - j) * 3 + i, none⟩) hg))
            have c0 := (HC.out 0 (by omega)).trans d0
            have c1 := (HC.out 1 (by omega)).trans d1
            have c2' := (HC.out 2 (by omega)).trans d2
            rw [Nat.add_zero] at c0
            have y0 := (HBR.out.cell (p := ⟨g2', o2 + (m - 1 - j) * 3, none⟩) hg2').trans f0
            have y1 := (HBR.out.cell (p := ⟨g2', o2 + (m - 1 - j) * 3 + 1, none⟩) hg2').trans f1
            have y2 := (HBR.out.cell (p := ⟨g2', o2 + (m - 1 - j) * 3 + 2, none⟩) hg2').trans f2
            have et : (ts.drop k)[(ts.drop k).length - 1 - j]? = some t := by rw [HL1.out, List.getElem?_drop, show k + (n - k - 1 - j) = n - 1 - j by omega]; exact ht
            have eu : (us.drop k)[(us.drop k).length - 1 - j]? = some u := by rw [HL2.out, List.getElem?_drop, show k + (m - k - 1 - j) = m - 1 - j by omega]; exact hu
            have ET := Lib.hid et
            have EU := Lib.hid eu
            have hj3 : (j : Int) < (n : Int) - k := by omega
            have hj4 : (j : Int) < (m : Int) - k := by omega
            have hgl : g2' < wr.heap.size := by omega
            have hgl2 : g < wr.heap.size := by omega
            clear hr hr2 ht hu d0 d1 d2 f0 f1 f2 et eu HC
            by_cases h3 : (t.a : Int) < to
            · have HS := Lib.hid (kept_stop1 HRL.out (by rw [HL1.out]; exact hlt1) (by rw [HL2.out]; exact hlt2) ET.out EU.out h3)
              go_wp2
              ((try simp only [Exit.inBlock, Exit.then]); refine bodyPost_ret (results_tmp4 rfl _ _ _) rfl ?_)
              exact rr_fin HKF.out (HE.out.2 _ (by rw [← HBY.out]; exact HS.out)) HUS.out HM.out HO2.out HB1.out (((HBR.out.alloc hszr _).alloc (by simp; omega) _))
            · have HS2 := Lib.hid (kept_stop2 HRL.out (by rw [HL1.out]; exact hlt1) (by rw [HL2.out]; exact hlt2) ET.out EU.out h3)
              have HG2 := Lib.hid (kept_go HRL.out (by rw [HL1.out]; exact hlt1) (by rw [HL2.out]; exact hlt2) ET.out EU.out h3)
              have hmt : t ∈ Lx.lexF s.data.toList := by
                rw [← HTS.out]
                exact List.mem_of_mem_drop (List.mem_of_getElem? ET.out)
              have hta := Lx.lex_at _ hmt
              rw [← sz] at hta
              have hta1 : (t.a : Int) ≤ 1073741824 := by omega
              have hta2 : (t.b : Int) ≤ 1073741824 := by omega
              obtain ⟨hby1, hby2⟩ := hb1
              clear hmt hta
              go_wp2
              all_goals first
                | (have HS := HS2.out (by
                     rintro ⟨⟨x1, x2⟩, x3⟩
                     first
                       | omega
                       | (have hb : ((t.b : Int) + by_ != u.b) = true := by assumption
                          rw [x3] at hb
                          simp at hb))
                   ((try simp only [Exit.inBlock, Exit.then]); refine bodyPost_ret (results_tmp4 rfl _ _ _) rfl ?_)
                   exact rr_fin HKF.out (HE.out.2 _ (by rw [← HBY.out]; exact HS)) HUS.out HM.out HO2.out HB1.out (((HBR.out.alloc hszr _).alloc (by simp; omega) _)))
                | (have HG := HG2.out (by
                     have hb : ((t.b : Int) + by_ != u.b) = false := by assumption
                     simp only [bne_eq_false_iff_eq] at hb
                     refine ⟨⟨by omega, by omega⟩, hb⟩)
                   go_roundw
                   case rel => exact ⟨j + 1, by omega, by omega, by go_num, HG, ((HBR.out.alloc hszr _).alloc (by simp; omega) _)⟩
                   case measure => simp [intOf]; omega)
          · have hend : j = (ts.drop k).length ∨ j = (us.drop k).length := by rw [HL1.out, HL2.out]; omega
            have HS := Lib.hid (kept_end HRL.out hend)
            clear hend
            by_cases hlt1 : j < n - k
            · have hlt2 : ¬ j < m - k := fun h => hlt ⟨hlt1, h⟩
              have hlt3 : (j : Int) < (n : Int) - k := by omega
              have hlt4 : ¬ (j : Int) < (m : Int) - k := by omega
              clear hlt
              go_wp2
              ((try simp only [Exit.inBlock, Exit.then]); refine bodyPost_ret (results_tmp4 rfl _ _ _) rfl ?_)
              exact rr_fin HKF.out (HE.out.2 _ (by rw [← HBY.out]; exact HS.out)) HUS.out HM.out HO2.out HB1.out HBR.out
            · have hlt3 : ¬ (j : Int) < (n : Int) - k := by omega
              clear hlt
              go_wp2
              ((try simp only [Exit.inBlock, Exit.then]); refine bodyPost_ret (results_tmp4 rfl _ _ _) rfl ?_)
              exact rr_fin HKF.out (HE.out.2 _ (by rw [← HBY.out]; exact HS.out)) HUS.out HM.out HO2.out HB1.out HBR.out
end Go.Proofs.Ytnmebingjpnlgaa
