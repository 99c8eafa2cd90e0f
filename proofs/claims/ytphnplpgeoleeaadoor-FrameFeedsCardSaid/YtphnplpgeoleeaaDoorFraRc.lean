/- The reference's field. -/
import Derived.Test.YtphnplpgeoleeaaDoorFraRb
namespace Go.Proofs.YtphnplpgeoleeaaDoor
open Go.RowKit Go.Lib Go.Shelf
set_option maxRecDepth 100000
set_option linter.unusedVariables false
set_option linter.unusedSectionVars false

def FoldP (c : UInt8) (w : World) (e : Ending) (w' : World) : Prop := e = .returned (.int .u8 ((foldC c).toNat : Nat)) ∧ w = w'
theorem folded_any (c : UInt8) (w : World) : Calls Tryd.prog 44 #[.int .u8 (c.toNat : Nat)] w (FoldP c w) := by
  have HN := Lib.hid (foldC_nat c)
  have hlt : c.toNat < 256 := c.toNat_lt
  by_cases h65 : 65 ≤ c.toNat
  · by_cases h90 : c.toNat ≤ 90
    · have HR := Lib.hid (show (foldC c).toNat = c.toNat + 32 by rw [HN.out, if_pos ⟨h65, h90⟩])
      go_enter Tryd.func44, Tryd.ntmps44
      go_wp2
      go_ret
      exact ⟨by rw [HR.out]; go_num, by first | rfl | trivial⟩
    · have HR := Lib.hid (show (foldC c).toNat = c.toNat by rw [HN.out, if_neg (by omega)])
      go_enter Tryd.func44, Tryd.ntmps44
      go_wp2
      go_ret
      exact ⟨by rw [HR.out]; rfl, by first | rfl | trivial⟩
  · have HR := Lib.hid (show (foldC c).toNat = c.toNat by rw [HN.out, if_neg (by omega)])
    go_enter Tryd.func44, Tryd.ntmps44
    go_wp2
    go_ret
    exact ⟨by rw [HR.out]; rfl, by first | rfl | trivial⟩
theorem argB_rest {w : World} {n c m : Nat} {ad : Addr} {l : List UInt8} (h : ArgB w (.slice (some ad) n c) l) (hm : m ≤ n) (hn : n ≤ c) : ArgB w (.slice (if c = m then some ad else some (ad.add m)) (n - m) (c - m)) (l.drop m) := by
  by_cases hc : c = m
  · obtain rfl : n = m := by omega
    subst hc
    have : l.length = c := argB_len h
    rw [if_pos rfl, Nat.sub_self, List.drop_eq_nil_of_le (by omega)]
    exact ArgB.empty _ _ _
  · rw [if_neg hc]
    exact h.drop m hm (by omega)
theorem argB_get {w : World} {A : Option Addr} {n c : Nat} {l : List UInt8} (h : ArgB w (.slice A n c) l) {k : Nat} (hk : k < n) : ∃ g o x, A = some ⟨g, o, none⟩ ∧ l[k]? = some x ∧ w.cell? ⟨g, o + k, none⟩ = some (.int .u8 (x.toNat : Nat)) := by
  have hl : l.length = n := argB_len h
  obtain ⟨⟨_, A', c', e, _, hr⟩, _⟩ := h
  simp only [Value.slice.injEq] at e
  obtain ⟨rfl, _, _⟩ := e
  obtain ⟨g, o, rfl, _, hr⟩ := hr (by omega)
  exact ⟨g, o, l[k]'(by omega), rfl, List.getElem?_eq_getElem _, by rw [hr k (by omega)]; exact bytesV_get l k (by omega)⟩
def FieldP (l : List UInt8) (w : World) (e : Ending) (w' : World) : Prop := e = .returned (.int .i64 (fieldZ l)) ∧ Below w.heap.size w w'
set_option maxHeartbeats 4000000 in
theorem field_any (v : Value) (l : List UInt8) (w : World) (h : ArgB w v l) (hl : l.length ≤ 1000000) : Calls Tryd.prog 33 #[v] w (FieldP l w) := by
  obtain ⟨i0, hi, hz0, hz1, hz2⟩ := info_parts infoByte
  obtain ⟨A, c, rfl, hc⟩ := h.shape
  obtain ⟨n, hn⟩ : ∃ n, n = l.length := ⟨_, rfl⟩
  rw [← hn] at h hc hl ⊢
  have HN := Lib.hid hn
  have HA := Lib.hid h
  clear h hn
  have HO0 := Lib.hid (World.ownsRow_lit (e := 5) (size := 1) w #[] 0 (Nat.le_refl _) (by unfold maxLen; omega) rfl)
  go_enter Tryd.func33, Tryd.ntmps33
  go_wp2
  go_loopw [3, 4] (fun kv u wr => ∃ k : Nat, kv = .int .i64 k ∧ k ≤ n ∧ RowKit.Hid ((l.take k).all nameC = true) ∧ RowKit.Hid (wr.ownsRow w.heap.size 5 1 u ((l.take k).map foldC).length (bytesV ((l.take k).map foldC))) ∧ RowKit.Hid (Below w.heap.size w wr)) (fun kv _ _ => n - (RowKit.intOf kv).toNat)
  case atStart => exact ⟨0, rfl, Nat.zero_le _, by simp [RowKit.Hid], HO0.out, (Below.refl _ _).alloc (Nat.le_refl _) _⟩
  case round =>
  obtain ⟨k, rfl, hk, HK, HO, HB⟩ := hrel
  by_cases hkn : k < n
  · obtain ⟨g, o, x, rfl, hx, hcell⟩ := argB_get (argB_below HA.out HB.out) hkn
    have HX := Lib.hid hx
    have HF := Lib.hid (fun W => show Calls Tryd.prog 44 #[.int .u8 (x.toNat : Nat)] W fun e w' => e = .returned (.int .u8 ((foldC x).toNat : Nat)) ∧ W = w' from folded_any x W)
    have hnx := nameC_fold x
    have HXV := Lib.hid (show bytesV [foldC x] = [.int .u8 ((foldC x).toNat : Nat)] from rfl)
    have hfl : (foldC x).toNat < 256 := (foldC x).toNat_lt
    have hkl : ((l.take k).map foldC).length = k := by rw [List.length_map, List.length_take]; have := HN.out; omega
    have HTK := Lib.hid (show ((l.take (k + 1)).map foldC) = (l.take k).map foldC ++ [foldC x] by rw [List.take_add_one, HX.out]; simp)
    have hws : w.heap.size ≤ wr.heap.size := HB.out.size
    by_cases hnm : nameC x = true
    · have HKN := Lib.hid (show (l.take (k + 1)).all nameC = true by rw [all_take HX.out, HK.out, hnm]; rfl)
      rw [hnm] at hnx
      have hcase : (97 ≤ (foldC x).toNat ∧ (foldC x).toNat ≤ 122) ∨ (foldC x).toNat < 97 ∧ x.toNat = 45 ∨ 122 < (foldC x).toNat ∧ x.toNat = 45 := by
        rw [eq_comm, Bool.or_eq_true, decide_eq_true_eq, decide_eq_true_eq] at hnx
        omega
      clear hx hnx hnm
      rcases hcase with ⟨h97, h122⟩ | ⟨h97, h45⟩ | ⟨h97, h45⟩
      · go_wp2_with (first | (go_at_call 44; with_reducible (refine (HF.out _).mono ?_); rintro e w2 ⟨rfl, rfl⟩) | (at_builtin; refine wpList_append_own _ rfl _ _ 27 rfl w.heap.size 5 i0 _ 1 1 Tryd.underlying27 hi hz0 hz1 hz2 rfl (by decide) _ _ _ rfl (HO.out.alloc _) ⟨wr.heap.size, 0, none⟩ 1 1 (bytesV [foldC x]) rfl rfl (by rw [HXV.out]; exact cell_one_new _ _ _) (bytesV_plain _) (by unfold maxLen; omega) (by omega) (by simp; omega) ?_; intro v3 w3 hown' hgrow hnil; have HO3 := Lib.hid (show w3.ownsRow w.heap.size 5 1 v3 ((l.take (k + 1)).map foldC).length (bytesV ((l.take (k + 1)).map foldC)) by rw [HTK.out, List.length_append, ← bytesV_app]; exact hown'); have HB3 := Lib.hid ((HB.out.alloc hws _).grown hgrow (by simp; omega) (fun j e => (HO.out.lt j e).1)); clear hown' hgrow hnil))
        exact ⟨⟨k + 1, by go_num, by omega, HKN.out, HO3.out, HB3.out⟩, by simp [RowKit.intOf] <;> omega⟩
      · have hb45 : (((x.toNat : Nat) : Int) == 45) = true := beq_iff_eq.2 (by omega)
        clear h45
        go_wp2_with (first | (go_at_call 44; with_reducible (refine (HF.out _).mono ?_); rintro e w2 ⟨rfl, rfl⟩) | (at_builtin; refine wpList_append_own _ rfl _ _ 27 rfl w.heap.size 5 i0 _ 1 1 Tryd.underlying27 hi hz0 hz1 hz2 rfl (by decide) _ _ _ rfl (HO.out.alloc _) ⟨wr.heap.size, 0, none⟩ 1 1 (bytesV [foldC x]) rfl rfl (by rw [HXV.out]; exact cell_one_new _ _ _) (bytesV_plain _) (by unfold maxLen; omega) (by omega) (by simp; omega) ?_; intro v3 w3 hown' hgrow hnil; have HO3 := Lib.hid (show w3.ownsRow w.heap.size 5 1 v3 ((l.take (k + 1)).map foldC).length (bytesV ((l.take (k + 1)).map foldC)) by rw [HTK.out, List.length_append, ← bytesV_app]; exact hown'); have HB3 := Lib.hid ((HB.out.alloc hws _).grown hgrow (by simp; omega) (fun j e => (HO.out.lt j e).1)); clear hown' hgrow hnil))
        exact ⟨⟨k + 1, by go_num, by omega, HKN.out, HO3.out, HB3.out⟩, by simp [RowKit.intOf] <;> omega⟩
      · exfalso
        have h2 := foldC_nat x
        rw [if_neg (by omega)] at h2
        omega
    · have HKN := Lib.hid (show nameC x = false by simpa using hnm)
      have hnm2 : nameC x = false := HKN.out
      rw [hnm2] at hnx
      have h45 : ¬ x.toNat = 45 := fun h => by
        rw [decide_eq_true h, Bool.or_true] at hnx
        cases hnx
      have hb45 : (((x.toNat : Nat) : Int) == 45) = false := beq_eq_false_iff_ne.2 (by omega)
      have hcase : 122 < (foldC x).toNat ∨ (foldC x).toNat < 97 := by
        rcases Nat.lt_or_ge (foldC x).toNat 97 with h | h
        · exact .inr h
        · refine .inl ?_
          rcases Nat.lt_or_ge 122 (foldC x).toNat with h2 | h2
          · exact h2
          · rw [decide_eq_true ⟨h, h2⟩] at hnx
            cases hnx
      clear hx hnx hnm hnm2
      by_cases h58 : k = 0 ∨ ¬ x.toNat = 58
      · have HZ := Lib.hid (show fieldZ l = -2 by
          unfold fieldZ
          rw [fieldF_bad HK.out (by
            rcases h58 with h | h
            · exact .inl h
            · exact .inr (.inr ⟨x, HX.out, fun e => h (by rw [e]; rfl)⟩)) (.inr ⟨x, HX.out, HKN.out⟩)])
        rcases hcase with hcase | hcase
        all_goals
          by_cases hk0 : k = 0
          · subst hk0
            have hcell0 : wr.cell? ⟨g, o, none⟩ = some (.int .u8 (x.toNat : Nat)) := hcell
            go_wp2_with (go_at_call 44; with_reducible (refine (HF.out _).mono ?_); rintro e w2 ⟨rfl, rfl⟩)
            go_ret
            exact ⟨by rw [HZ.out]; rfl, HB.out⟩
          · have hb58 : (((x.toNat : Nat) : Int) != 58) = true := by rw [bne_iff_ne]; omega
            have hbk0 : ((k : Int) == 0) = false := beq_eq_false_iff_ne.2 (by omega)
            have hbkn : ((k : Int) == n) = false := beq_eq_false_iff_ne.2 (by omega)
            clear h58 hk0
            go_wp2_with (go_at_call 44; with_reducible (refine (HF.out _).mono ?_); rintro e w2 ⟨rfl, rfl⟩)
            go_ret
            exact ⟨by rw [HZ.out]; rfl, HB.out⟩
      · have hk0 : 0 < k := by omega
        have hx58 : x.toNat = 58 := by omega
        have hb58 : (((x.toNat : Nat) : Int) != 58) = false := by rw [hx58]; rfl
        have hf97 : (foldC x).toNat < 97 := by
          have h2 := foldC_nat x
          rw [if_neg (by omega)] at h2
          omega
        have HX58 := Lib.hid (show l[k]? = some 58 by
          rw [HX.out]
          congr 1
          exact UInt8.toNat_inj.1 (by rw [hx58]; rfl))
        have hbk0 : ((k : Int) == 0) = false := beq_eq_false_iff_ne.2 (by omega)
        have hbkn : ((k : Int) == n) = false := beq_eq_false_iff_ne.2 (by omega)
        clear hcase h58 h45 hx58
        go_upto_region 8 with (go_at_call 44; with_reducible (refine (HF.out _).mono ?_); rintro e w2 ⟨rfl, rfl⟩)
        rename World => w1
        have HA1 := Lib.hid (argB_rest (argB_below HA.out HB.out) (m := k + 1) (by omega) hc)
        go_cut [5] from 62 to 65 (fun v wx => wx = w1 ∧ ∃ A m c', v = .slice A m c' ∧ RowKit.Hid (ArgB w1 (.slice A m c') (l.drop (k + 1))))
        case first =>
          by_cases hck : c = k + 1
          · have hnk : n = k + 1 := by omega
            have h := HA1.out
            rw [if_pos hck] at h
            subst hck
            subst hnk
            rw [Nat.sub_self] at h
            have HA2 := Lib.hid h
            clear h
            go_wp2
            go_meet
            exact ⟨rfl, _, _, _, rfl, HA2.out⟩
          · have h := HA1.out
            rw [if_neg hck, add_off] at h
            have HA2 := Lib.hid h
            clear h
            go_wp2
            go_meet
            exact ⟨rfl, _, _, _, rfl, HA2.out⟩
        case rest =>
          obtain ⟨hwc, A2, m, c2, rfl, HV⟩ := hcut
          subst hwc
          rename World => w1
          have hm : m ≤ 1000000 := by
            have h := argB_len HV.out
            rw [List.length_drop] at h
            have := HN.out
            omega
          have hm2 := hm
          have hmc2 : m ≤ c2 := by
            obtain ⟨⟨_, A, c, e, hc, _⟩, _⟩ := HV.out
            have h := argB_len HV.out
            simp only [Value.slice.injEq] at e
            omega
          obtain ⟨V, hV⟩ : ∃ V, V = l.drop (k + 1) := ⟨_, rfl⟩
          have HG := Lib.hid (fieldF_good HK.out hk0 HX58.out)
          rw [← hV] at HV HG
          have HVL := Lib.hid (argB_len HV.out)
          clear hV
          go_wp2
          go_loopw [6] (fun iv wr => ∃ i : Nat, iv = .int .i64 i ∧ i ≤ m ∧ RowKit.Hid ((V.take i).all noLB = true) ∧ wr = w1) (fun iv _ => m - (RowKit.intOf iv).toNat)
          case atStart => exact ⟨0, rfl, Nat.zero_le _, by simp [RowKit.Hid], rfl⟩
          case round =>
          obtain ⟨i, rfl, hi2, HI, rfl⟩ := hrel
          rename World => w1
          by_cases him : i < m
          · obtain ⟨g2, o2, y, rfl, hy, hcell2⟩ := argB_get HV.out him
            have HY := Lib.hid hy
            clear hy
            by_cases h13 : y.toNat = 13 ∨ y.toNat = 10
            · have HZ := Lib.hid (show fieldZ l = -2 by
                unfold fieldZ
                rw [HG.out, if_neg (by
                  rw [all_no HY.out (by
                    unfold noLB
                    rcases h13 with h | h
                    · rw [decide_eq_false (p := y ≠ 13) (fun hne => hne (UInt8.toNat_inj.1 (by rw [h]; rfl)))]
                      rfl
                    · rw [decide_eq_false (p := y ≠ 10) (fun hne => hne (UInt8.toNat_inj.1 (by rw [h]; rfl))), Bool.and_false])]
                  simp)])
              rcases h13 with h13 | h13
              · have hb13 : (((y.toNat : Nat) : Int) == 13) = true := beq_iff_eq.2 (by omega)
                clear h13
                go_wp2
                go_ret
                exact ⟨by rw [HZ.out]; rfl, HB.out⟩
              · have hb13 : (((y.toNat : Nat) : Int) == 13) = false := beq_eq_false_iff_ne.2 (by omega)
                have hb10 : (((y.toNat : Nat) : Int) == 10) = true := beq_iff_eq.2 (by omega)
                clear h13
                go_wp2
                go_ret
                exact ⟨by rw [HZ.out]; rfl, HB.out⟩
            · have hb13 : (((y.toNat : Nat) : Int) == 13) = false := beq_eq_false_iff_ne.2 (by omega)
              have hb10 : (((y.toNat : Nat) : Int) == 10) = false := beq_eq_false_iff_ne.2 (by omega)
              have HI2 := Lib.hid (show (V.take (i + 1)).all noLB = true by
                rw [all_take HY.out, HI.out, show noLB y = true by
                  unfold noLB
                  rw [decide_eq_true (p := y ≠ 13) (fun e => h13 (.inl (by rw [e]; rfl))), decide_eq_true (p := y ≠ 10) (fun e => h13 (.inr (by rw [e]; rfl)))]
                  rfl]
                rfl)
              clear h13
              go_wp2
              exact ⟨⟨i + 1, by go_num, by omega, HI2.out, trivial⟩, by simp [RowKit.intOf] <;> omega⟩
          have hie : i = m := by omega
          subst hie
          have hall : V.all noLB = true := by
            have h := HI.out
            rwa [List.take_of_length_le (by rw [HVL.out]; omega)] at h
          have HG2 := Lib.hid (show fieldF l = if (l.take k).map foldC = clName then (match digF (Lib.trimS V [32, 9]) with | none => none | some n => some (some n)) else some none by rw [HG.out, if_pos hall]; cases digF (Lib.trimS V [32, 9]) <;> rfl)
          obtain ⟨NM, hNM⟩ : ∃ NM, NM = (l.take k).map foldC := ⟨_, rfl⟩
          rw [← hNM] at HO HG2
          have HAN := Lib.hid (own_argB HO.out)
          obtain ⟨Au, cu, hu⟩ := own_shape HO.out
          subst hu
          obtain ⟨nn, hnn⟩ : ∃ nn, nn = NM.length := ⟨_, rfl⟩
          rw [← hnn] at HAN ⊢
          have kcv : (convert 27 9 (.slice Au nn cu)).run Tryd.prog w1 = .ok (.string (bs NM)) w1 := conv_rd HAN.out.1 _ _ 5 Tryd.underlying27 Tryd.underlying5 Tryd.underlying9
          clear hNM hnn hall HO
          by_cases hcl : NM = clName
          · have HZ := Lib.hid (show fieldZ l = match digF (Lib.trimS V [32, 9]) with | none => -2 | some n => (n : Int) by
              unfold fieldZ
              rw [HG2.out, if_pos hcl]
              cases digF (Lib.trimS V [32, 9]) <;> rfl)
            subst hcl
            have hcmp : ((bs clName).toList == [99, 111, 110, 116, 101, 110, 116, 45, 108, 101, 110, 103, 116, 104]) = true := by rw [Lib.toList_data, bs_list]; rfl
            clear hm HVL
            go_wp2
            go_loopw [5] (fun vv wr => ∃ (A : Option Addr) (m c : Nat) (p M : List UInt8), vv = .slice A m c ∧ m ≤ c ∧ m ≤ 1000000 ∧ RowKit.Hid (ArgB w1 (.slice A m c) M) ∧ RowKit.Hid (V = p ++ M ∧ ∀ x ∈ p, x = 32 ∨ x = 9) ∧ wr = w1) (fun vv _ => match vv with | .slice _ n _ => n | _ => 0)
            case atStart => exact ⟨_, _, _, [], V, rfl, hmc2, hm2, HV.out, ⟨rfl, fun x h => by simp at h⟩, rfl⟩
            case round =>
            obtain ⟨A3, m3, c3, p3, M3, rfl, hmc3, hm3, HA3, HP3, rfl⟩ := hrel
            rename World => w1
            have HL3 := Lib.hid (argB_len HA3.out)
            by_cases hb3 : 0 < m3 ∧ ∃ y, M3[0]? = some y ∧ (y.toNat = 32 ∨ y.toNat = 9)
            · obtain ⟨hm0, y', hy', hyb⟩ := hb3
              obtain ⟨g3, o3, y, rfl, hy, hcell3⟩ := argB_get HA3.out hm0
              obtain rfl : y' = y := by rw [hy'] at hy; exact Option.some.inj hy
              rw [Nat.add_zero] at hcell3
              have HP4 := Lib.hid (show V = (p3 ++ [y']) ++ M3.drop 1 ∧ ∀ x ∈ p3 ++ [y'], x = 32 ∨ x = 9 by
                refine ⟨?_, fun x hx => ?_⟩
                · rw [HP3.out.1]
                  cases M3 with
                  | nil => simp at hy
                  | cons a r =>
                    simp at hy
                    subst hy
                    simp
                · rcases List.mem_append.1 hx with h | h
                  · exact HP3.out.2 x h
                  · simp at h
                    subst h
                    rcases hyb with h | h
                    · exact .inl (UInt8.toNat_inj.1 (by rw [h]; rfl))
                    · exact .inr (UInt8.toNat_inj.1 (by rw [h]; rfl)))
              have HR3 := argB_rest HA3.out (m := 1) (by omega) hmc3
              clear hy hy'
              by_cases hc1 : c3 = 1
              · have hm1 : m3 = 1 := by omega
                rw [if_pos hc1] at HR3
                subst hc1
                subst hm1
                rw [Nat.sub_self] at HR3
                have HR4 := Lib.hid HR3
                clear HR3
                rcases hyb with hyb | hyb
                · have hb32 : (((y'.toNat : Nat) : Int) == 32) = true := beq_iff_eq.2 (by omega)
                  clear hyb
                  go_wp2
                  exact ⟨⟨_, _, _, _, _, rfl, by omega, by omega, HR4.out, HP4.out, trivial⟩, by simp⟩
                · have hb32 : (((y'.toNat : Nat) : Int) == 32) = false := beq_eq_false_iff_ne.2 (by omega)
                  have hb9 : (((y'.toNat : Nat) : Int) == 9) = true := beq_iff_eq.2 (by omega)
                  clear hyb
                  go_wp2
                  exact ⟨⟨_, _, _, _, _, rfl, by omega, by omega, HR4.out, HP4.out, trivial⟩, by simp⟩
              · rw [if_neg hc1, add_off] at HR3
                have HR4 := Lib.hid HR3
                clear HR3
                rcases hyb with hyb | hyb
                · have hb32 : (((y'.toNat : Nat) : Int) == 32) = true := beq_iff_eq.2 (by omega)
                  clear hyb
                  go_wp2
                  exact ⟨⟨_, _, _, _, _, rfl, by omega, by omega, HR4.out, HP4.out, trivial⟩, by simp; omega⟩
                · have hb32 : (((y'.toNat : Nat) : Int) == 32) = false := beq_eq_false_iff_ne.2 (by omega)
                  have hb9 : (((y'.toNat : Nat) : Int) == 9) = true := beq_iff_eq.2 (by omega)
                  clear hyb
                  go_wp2
                  exact ⟨⟨_, _, _, _, _, rfl, by omega, by omega, HR4.out, HP4.out, trivial⟩, by simp; omega⟩
            have HF3 := Lib.hid (show ∀ x, M3[0]? = some x → x ≠ 32 ∧ x ≠ 9 by
              intro x hx
              have hpos : 0 < m3 := by
                have h1 := (List.getElem?_eq_some_iff.1 hx).1
                have h2 := HL3.out
                omega
              refine ⟨fun e => hb3 ⟨hpos, x, hx, .inl (by rw [e]; rfl)⟩, fun e => hb3 ⟨hpos, x, hx, .inr (by rw [e]; rfl)⟩⟩)
            go_upto_region 16 with fail
            go_cut [101] from 87 to 101 (fun bv wx => bv = .bool false ∧ wx = w1)
            case first =>
              by_cases hm0 : 0 < m3
              · obtain ⟨g3, o3, y, rfl, hy, hcell3⟩ := argB_get HA3.out hm0
                have hyn := HF3.out y hy
                rw [Nat.add_zero] at hcell3
                have hb32 : (((y.toNat : Nat) : Int) == 32) = false := beq_eq_false_iff_ne.2 (fun h => hyn.1 (UInt8.toNat_inj.1 (by have : (32 : UInt8).toNat = 32 := rfl; omega)))
                have hb9 : (((y.toNat : Nat) : Int) == 9) = false := beq_eq_false_iff_ne.2 (fun h => hyn.2 (UInt8.toNat_inj.1 (by have : (9 : UInt8).toNat = 9 := rfl; omega)))
                clear hyn hy hb3
                go_wp2
                go_meet
                exact ⟨rfl, rfl⟩
              · clear hb3
                go_wp2
                go_meet
                exact ⟨rfl, rfl⟩
            case rest =>
            obtain ⟨rfl, hwc⟩ := hcut
            subst hwc
            rename World => w1
            clear hb3
            go_wp2
            go_loopw [5] (fun vv wr => ∃ (A : Option Addr) (m c : Nat) (M q : List UInt8), vv = .slice A m c ∧ m ≤ c ∧ m ≤ 1000000 ∧ RowKit.Hid (ArgB w1 (.slice A m c) M) ∧ RowKit.Hid (M3 = M ++ q ∧ ∀ x ∈ q, x = 32 ∨ x = 9) ∧ wr = w1) (fun vv _ => match vv with | .slice _ n _ => n | _ => 0)
            case atStart => exact ⟨_, _, _, M3, [], rfl, hmc3, hm3, HA3.out, ⟨by simp, fun x h => by simp at h⟩, rfl⟩
            case round =>
            obtain ⟨A4, m4, c4, M4, q4, rfl, hmc4, hm4, HA4, HP4, rfl⟩ := hrel
            rename World => w1
            have HL4 := Lib.hid (argB_len HA4.out)
            by_cases hb4 : 0 < m4 ∧ ∃ y, M4[m4 - 1]? = some y ∧ (y.toNat = 32 ∨ y.toNat = 9)
            · obtain ⟨hm0, y', hy', hyb⟩ := hb4
              obtain ⟨a, rfl⟩ : ∃ a, m4 = a + 1 := ⟨m4 - 1, by omega⟩
              rw [Nat.add_sub_cancel] at hy'
              obtain ⟨g4, o4, y, rfl, hy, hcell4⟩ := argB_get HA4.out (show a < a + 1 by omega)
              obtain rfl : y' = y := by rw [hy'] at hy; exact Option.some.inj hy
              have HR4 := Lib.hid (HA4.out.take a (by omega))
              have HP5 := Lib.hid (show M3 = M4.take a ++ (y' :: q4) ∧ ∀ x ∈ y' :: q4, x = 32 ∨ x = 9 by
                refine ⟨?_, fun x hx => ?_⟩
                · have h := List.take_append_drop a M4
                  rw [List.drop_eq_getElem_cons (by have := HL4.out; omega), List.drop_eq_nil_of_le (by have := HL4.out; omega)] at h
                  rw [HP4.out.1]
                  have hya : M4[a]'(by have := HL4.out; omega) = y' := by
                    rw [List.getElem?_eq_getElem (by have := HL4.out; omega)] at hy'
                    exact Option.some.inj hy'
                  rw [hya] at h
                  calc M4 ++ q4 = (M4.take a ++ [y']) ++ q4 := by rw [h]
                    _ = _ := by simp
                · rcases List.mem_cons.1 hx with rfl | h
                  · rcases hyb with h | h
                    · exact .inl (UInt8.toNat_inj.1 (by rw [h]; rfl))
                    · exact .inr (UInt8.toNat_inj.1 (by rw [h]; rfl))
                  · exact HP4.out.2 x h)
              clear hy hy'
              rcases hyb with hyb | hyb
              · have hb32 : (((y'.toNat : Nat) : Int) == 32) = true := beq_iff_eq.2 (by omega)
                clear hyb
                go_wp2
                exact ⟨⟨_, _, _, _, _, rfl, by omega, by omega, HR4.out, HP5.out, trivial⟩, by simp⟩
              · have hb32 : (((y'.toNat : Nat) : Int) == 32) = false := beq_eq_false_iff_ne.2 (by omega)
                have hb9 : (((y'.toNat : Nat) : Int) == 9) = true := beq_iff_eq.2 (by omega)
                clear hyb
                go_wp2
                exact ⟨⟨_, _, _, _, _, rfl, by omega, by omega, HR4.out, HP5.out, trivial⟩, by simp⟩
            have HF4 := Lib.hid (show ∀ x, M4[M4.length - 1]? = some x → x ≠ 32 ∧ x ≠ 9 by
              intro x hx
              have h2 := HL4.out
              have hpos : 0 < m4 := by
                have h1 := (List.getElem?_eq_some_iff.1 hx).1
                omega
              rw [h2] at hx
              refine ⟨fun e => hb4 ⟨hpos, x, hx, .inl (by rw [e]; rfl)⟩, fun e => hb4 ⟨hpos, x, hx, .inr (by rw [e]; rfl)⟩⟩)
            have HTR := Lib.hid (show Lib.trimS V [32, 9] = M4 by
              rw [HP3.out.1, HP4.out.1, ← List.append_assoc]
              refine trim_mid HP3.out.2 HP4.out.2 (fun x hx => ?_) HF4.out
              refine HF3.out x ?_
              rw [HP4.out.1, List.getElem?_append_left (List.getElem?_eq_some_iff.1 hx).1]
              exact hx)
            have HZ4 := Lib.hid (show fieldZ l = match digF M4 with | none => -2 | some n => (n : Int) by rw [HZ.out, HTR.out])
            go_upto_region 18 with fail
            go_cut [124] from 104 to 124 (fun bv wx => bv = .bool false ∧ wx = w1)
            case first =>
              by_cases hm0 : 0 < m4
              · obtain ⟨a, rfl⟩ : ∃ a, m4 = a + 1 := ⟨m4 - 1, by omega⟩
                obtain ⟨g4, o4, y, rfl, hy, hcell4⟩ := argB_get HA4.out (show a < a + 1 by omega)
                have hyn := HF4.out y (by rw [HL4.out]; exact hy)
                have hb32 : (((y.toNat : Nat) : Int) == 32) = false := beq_eq_false_iff_ne.2 (fun h => hyn.1 (UInt8.toNat_inj.1 (by have : (32 : UInt8).toNat = 32 := rfl; omega)))
                have hb9 : (((y.toNat : Nat) : Int) == 9) = false := beq_eq_false_iff_ne.2 (fun h => hyn.2 (UInt8.toNat_inj.1 (by have : (9 : UInt8).toNat = 9 := rfl; omega)))
                clear hyn hy hb4
                go_wp2
                go_meet
                exact ⟨rfl, rfl⟩
              · clear hb4
                go_wp2
                go_meet
                exact ⟨rfl, rfl⟩
            case rest =>
            obtain ⟨rfl, hwc⟩ := hcut
            subst hwc
            rename World => w1
            clear hb4
            by_cases hlo : (m4 : Int) < 1
            · have hg := decide_eq_true hlo
              have HR := Lib.hid (show fieldZ l = -2 by
                rw [HZ4.out]
                unfold digF
                rw [if_neg (by rw [HL4.out]; omega)])
              clear hlo
              go_wp2
              go_ret
              exact ⟨by rw [HR.out]; rfl, HB.out⟩
            by_cases hhi : (6 : Int) < (m4 : Int)
            · have hg := decide_eq_false hlo
              have hg6 := decide_eq_true hhi
              have HR := Lib.hid (show fieldZ l = -2 by
                rw [HZ4.out]
                unfold digF
                rw [if_neg (by rw [HL4.out]; omega)])
              clear hlo hhi
              go_wp2
              go_ret
              exact ⟨by rw [HR.out]; rfl, HB.out⟩
            have hg := decide_eq_false hlo
            have hg6 := decide_eq_false hhi
            have hb6 : m4 ≤ 6 := by omega
            have hb1 : 1 ≤ m4 := by omega
            clear hlo hhi
            go_wp2
            go_loopw [7, 8] (fun nv iv wr => ∃ (i s : Nat), nv = .int .i64 s ∧ iv = .int .i64 i ∧ i ≤ m4 ∧ s ≤ 1000000 ∧ RowKit.Hid (s = digN 0 (M4.take i) ∧ (M4.take i).all digC = true) ∧ wr = w1) (fun _ iv _ => m4 - (RowKit.intOf iv).toNat)
            case atStart => exact ⟨0, 0, rfl, rfl, by omega, by omega, ⟨rfl, rfl⟩, rfl⟩
            case round =>
            obtain ⟨i, s, rfl, rfl, hi5, hs5, HD, rfl⟩ := hrel
            rename World => w1
            by_cases him : i < m4
            · obtain ⟨g4, o4, y, rfl, hy, hcell4⟩ := argB_get HA4.out him
              have HY := Lib.hid hy
              have hyl : y.toNat < 256 := y.toNat_lt
              clear hy
              by_cases hlo : ((y.toNat : Nat) : Int) < 48
              · have HR := Lib.hid (show fieldZ l = -2 by
                  rw [HZ4.out]
                  unfold digF
                  rw [if_neg (by
                    rw [all_no HY.out (by unfold digC; rw [decide_eq_false (by omega)]; rfl)]
                    simp)])
                have hgl := decide_eq_true hlo
                clear hlo
                go_wp2
                go_ret
                exact ⟨by rw [HR.out]; rfl, HB.out⟩
              by_cases hhi : (57 : Int) < ((y.toNat : Nat) : Int)
              · have HR := Lib.hid (show fieldZ l = -2 by
                  rw [HZ4.out]
                  unfold digF
                  rw [if_neg (by
                    rw [all_no HY.out (by unfold digC; rw [decide_eq_false (p := y.toNat ≤ 57) (by omega), Bool.and_false])]
                    simp)])
                have hgl := decide_eq_false hlo
                have hgh := decide_eq_true hhi
                clear hlo hhi
                go_wp2
                go_ret
                exact ⟨by rw [HR.out]; rfl, HB.out⟩
              have HA2 := Lib.hid (show (M4.take (i + 1)).all digC = true by
                rw [all_take HY.out, HD.out.2, show digC y = true by unfold digC; rw [decide_eq_true (p := 48 ≤ y.toNat) (by omega), decide_eq_true (p := y.toNat ≤ 57) (by omega)]; rfl]
                rfl)
              have HV2 := Lib.hid (show s * 10 + y.toNat - 48 = digN 0 (M4.take (i + 1)) by rw [digN_take HY.out, ← HD.out.1]; omega)
              have HB2 := Lib.hid (show s * 10 + y.toNat - 48 ≤ 1000000 by
                have h1 := digN_le _ HA2.out
                rw [← HV2.out] at h1
                have h2 : (M4.take (i + 1)).length ≤ 6 := by rw [List.length_take, HL4.out]; omega
                have h3 : 10 ^ (M4.take (i + 1)).length ≤ 10 ^ 6 := Nat.pow_le_pow_right (by omega) h2
                have h4 : 10 ^ 6 = 1000000 := rfl
                omega)
              have hgl := decide_eq_false hlo
              have hgh := decide_eq_false hhi
              have h48 : 48 ≤ y.toNat := by omega
              clear hlo hhi
              go_wp2
              exact ⟨⟨i + 1, s * 10 + y.toNat - 48, by go_num, by go_num, by omega, HB2.out, ⟨HV2.out, HA2.out⟩, trivial⟩, by simp [RowKit.intOf] <;> omega⟩
            have hie5 : i = m4 := by omega
            subst hie5
            have HR := Lib.hid (show fieldZ l = s by
              have h := HD.out
              rw [List.take_of_length_le (by rw [HL4.out]; omega)] at h
              rw [HZ4.out]
              unfold digF
              rw [if_pos ⟨by rw [HL4.out]; omega, by rw [HL4.out]; omega, h.2⟩, h.1])
            go_wp2
            go_ret
            exact ⟨by rw [HR.out]; rfl, HB.out⟩
          · have HZ := Lib.hid (show fieldZ l = -1 by
              unfold fieldZ
              rw [HG2.out, if_neg hcl])
            have hcmp : ((bs NM).toList == [99, 111, 110, 116, 101, 110, 116, 45, 108, 101, 110, 103, 116, 104]) = false := by
              rw [Lib.toList_data, bs_list]
              exact beq_eq_false_iff_ne.2 hcl
            clear hcl
            go_wp2
            go_ret
            exact ⟨by rw [HZ.out]; rfl, HB.out⟩
  · have hke : k = n := by omega
    subst hke
    have HZ := Lib.hid (show fieldZ l = -2 by
      unfold fieldZ
      rw [fieldF_bad HK.out (.inr (.inl HN.out)) (.inl HN.out)])
    by_cases hk0 : k = 0
    · subst hk0
      go_wp2
      go_ret
      exact ⟨by rw [HZ.out]; rfl, HB.out⟩
    · have hbk0 : ((k : Int) == 0) = false := beq_eq_false_iff_ne.2 (by omega)
      clear hk0
      go_wp2
      go_ret
      exact ⟨by rw [HZ.out]; rfl, HB.out⟩
end Go.Proofs.YtphnplpgeoleeaaDoor
