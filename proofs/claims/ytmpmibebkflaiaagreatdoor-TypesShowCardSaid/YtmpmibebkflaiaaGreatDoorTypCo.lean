/- The contracts of the reference's count, right, Right. -/
import Derived.Test.YtmpmibebkflaiaaGreatDoorTypVa
import Derived.Test.YtmpmibebkflaiaaGreatDoorRefK
namespace Go.Proofs.YtmpmibebkflaiaaGreatDoor
open Go.RowKit Go.Lib Go.Shelf Go.Sort Tp
set_option maxRecDepth 100000
set_option linter.unusedVariables false
set_option linter.unusedSectionVars false

theorem wts_take3 (l : List Ty) : ∀ k x, l[k]? = some x → Ty.wts (l.take (k + 1)) = Ty.wts (l.take k) + x.wt := by
  induction l with
  | nil => intro k x h; simp at h
  | cons a l ih =>
    intro k x h
    cases k with
    | zero => simp at h; subst h; simp [Ty.wts]
    | succ k => rw [List.take_succ_cons, List.take_succ_cons, Ty.wts, Ty.wts, ih k x (by simpa using h)]; omega
theorem wts_take_le (l : List Ty) : ∀ k, Ty.wts (l.take k) ≤ Ty.wts l := by
  induction l with
  | nil => intro k; simp
  | cons a l ih =>
    intro k
    cases k with
    | zero => simp [Ty.wts]
    | succ k => rw [List.take_succ_cons, Ty.wts, Ty.wts]; have := ih k; omega
/-- what count answers. -/
def CountPost (t : Ty) (w : World) (e : Ending) (w' : World) : Prop := ∃ k : Nat, e = .returned (.int .i64 k) ∧ (1 ≤ k ∧ k ≤ t.wt ∧ (k ≤ 300 → k = t.wt)) ∧ Below w.heap.size w w'
set_option maxHeartbeats 1000000 in
theorem count_any (n : Nat) : ∀ (t : Ty) (s : Value) (w : World), t.wt ≤ n → t.wt ≤ 1000000 → fit t → IsA w (Old w) t.args s →
    Calls Tryz.prog 23 #[tv t s] w (CountPost t w) := by
  induction n with
  | zero => intro t s w hn; have := Ty.wt_eq t; omega
  | succ n ih =>
    intro t s w hn hm hf hA
    obtain ⟨A, c, rfl, hc, hr⟩ := argsT_of hA
    obtain ⟨M, hM, hx, hMs, hMb⟩ := one_box w t (.slice A t.args.length c) 24
    have HR := Lib.hid hr
    have HF := Lib.hid hf
    have HN := Lib.hid hn
    have HMX := Lib.hid hm
    have HI := Lib.hid ih
    have hsz := hf.self.2
    have HM := Lib.hid hM
    have HMb := Lib.hid hMb
    have HMs := Lib.hid hMs
    have HX := Lib.hid (fun W (hW : Below M.heap.size M W) => box_at hx (by omega) hW)
    have HW := Lib.hid (Ty.wt_eq t)
    obtain ⟨L, hL⟩ : ∃ L, L = t.args.length := ⟨_, rfl⟩
    have HL := Lib.hid hL
    unfold tv
    rw [← hL] at hc hsz HR HM HX ⊢
    clear hr hf hA hn hm ih hM hx hMs hMb hL
    go_enter Tryz.func23, Tryz.ntmps23
    go_wp2
    rw [← HM.out]
    go_loopw [3, 4] (fun cv i wr => ∃ j k : Nat, j ≤ L ∧ i = .int .i64 j ∧ cv = .int .i64 k ∧ (1 ≤ k ∧ k ≤ 1000000) ∧ RowKit.Hid (k ≤ 1 + Ty.wts (t.args.take j) ∧ (k ≤ 300 → k = 1 + Ty.wts (t.args.take j))) ∧ RowKit.Hid (Below M.heap.size M wr)) (fun _ i _ => L - (RowKit.intOf i).toNat)
    case atStart => exact ⟨0, 1, by omega, rfl, rfl, by omega, Lib.hid (by simp [Ty.wts]), Lib.hid (Below.refl _ _)⟩
    case round =>
      obtain ⟨j, k, hj, rfl, rfl, hk, HK, HB⟩ := hrel
      obtain ⟨x0, x1, x2, x3⟩ := HX.out wr HB.out
      by_cases hlt : j < L
      · by_cases h3 : k ≤ 300
        · obtain ⟨g, o, rfl, hg, hr⟩ := HR.out (by omega)
          obtain ⟨x, hx⟩ : ∃ x, t.args[j]? = some x := ⟨_, List.getElem?_eq_getElem (by have := HL.out; omega)⟩
          have hxm := List.mem_of_getElem? hx
          obtain ⟨sx, c0, c1, c2, c3, hax⟩ := ElsT.at hr hg (HMb.out.trans (HB.out.mono HMb.out.size)) hx
          obtain ⟨Ax, cx, rfl, hcx⟩ := hax.form
          have h1 := Ty.wt_lt hxm
          have HC := Lib.hid (HI.out x _ wr (by have := HN.out; omega) (by have := HMX.out; omega) (HF.out.arg hxm) hax)
          have HT := Lib.hid (wts_take3 _ _ _ hx)
          have HTL := Lib.hid (wts_take_le t.args (j + 1))
          unfold CountPost tv at HC
          clear hx hxm hax hr h1
          go_wp2_with (go_at_call 23; with_reducible (refine HC.out.mono ?_); rintro e w1 ⟨q, rfl, hq, hb1⟩; have HQ := Lib.hid hq; have hq2 : (q : Int) ≤ 1000000 := (by have := hq.2.1; have := HT.out; have := HTL.out; have := HW.out; have := HMX.out; omega); have hq1 : 1 ≤ q := hq.1; have HB1 := Lib.hid (HB.out.trans (hb1.mono HB.out.size)); clear hb1 hq)
          go_roundw
          case rel => exact ⟨j + 1, k + q, by omega, by go_num, by go_num, ⟨by omega, by
            have h1 := HQ.out
            have h2 := HT.out
            have h3 := HTL.out
            have h4 := HW.out
            have h5 := HMX.out
            have h6 := HK.out
            omega⟩, Lib.hid (by
            have h1 := HQ.out
            have h2 := HT.out
            have h6 := HK.out
            constructor
            · omega
            · intro h
              have := h6.2 (by omega)
              have := h1.2.2 (by omega)
              omega), HB1⟩
          case measure => simp [RowKit.intOf]; omega
        · go_wp2
          go_ret
          exact ⟨k, rfl, by
            have h1 := HK.out
            have h2 := wts_take_le t.args j
            have h3 := HW.out
            omega, HMb.out.trans (HB.out.mono HMb.out.size)⟩
      · have hjL : j = L := by omega
        subst hjL
        have HK2 := HK.out
        rw [List.take_of_length_le (by have := HL.out; omega)] at HK2
        have HKK := Lib.hid HK2
        clear HK2
        go_wp2
        go_ret
        exact ⟨k, rfl, by
          have h1 := HKK.out
          have h3 := HW.out
          omega, HMb.out.trans (HB.out.mono HMb.out.size)⟩

def okB (t : Ty) : Bool := (parts t).all (rightPart nameB)
theorem okB_eq (t : Ty) : okB t = (rightPart nameB t && t.args.all okB) := by
  unfold okB
  rw [parts_eq, partss_eq, List.all_cons, List.all_flatMap]
theorem right_okB (t : Ty) : rightF nameB t = (decide (t.wt ≤ 300) && okB t) := by
  unfold rightF okB
  rw [parts_len]
/-- a loop's answer, behind j elements. -/
def OkAt (t : Ty) (j : Nat) (b : Bool) : Prop := b = (rightPart nameB t && (t.args.take j).all okB)
theorem OkAt.next {t x : Ty} {j : Nat} (h : OkAt t j true) (hx : t.args[j]? = some x) : OkAt t (j + 1) (okB x) := by
  unfold OkAt at *
  rw [take_snoc hx, List.all_append, ← Bool.and_assoc, ← h]
  simp
theorem OkAt.done {t : Ty} {b : Bool} {j : Nat} (h : OkAt t j b) (hj : t.args.length ≤ j) : b = okB t := by
  unfold OkAt at h
  rw [List.take_of_length_le hj] at h
  rw [h, okB_eq]
theorem OkAt.no {t : Ty} {j : Nat} (h : OkAt t j false) : okB t = false := by
  unfold OkAt at h
  cases he : okB t with
  | false => rfl
  | true =>
    rw [okB_eq, Bool.and_eq_true] at he
    rw [he.1, Bool.true_and] at h
    have : (t.args.take j).all okB = true := by
      rw [List.all_eq_true] at *
      exact fun x hx => he.2 x (List.mem_of_mem_take hx)
    rw [this] at h
    cases h
theorem okAt_zero {t : Ty} {b : Bool} (h : b = rightPart nameB t) : OkAt t 0 b := by
  unfold OkAt
  rw [h]
  simp
set_option maxHeartbeats 8000000 in
theorem rright_any (n : Nat) : ∀ (t : Ty) (s : Value) (w : World), t.wt ≤ n → fit t → (∀ p ∈ parts t, p.name.size ≤ 16000) → IsA w (Old w) t.args s →
    Calls Tryz.prog 24 #[tv t s] w fun e w' => e = .returned (.bool (okB t)) ∧ Below w.heap.size w w' := by
  induction n with
  | zero => intro t s w hn; have := Ty.wt_eq t; omega
  | succ n ih =>
    intro t s w hn hf hnm hA
    obtain ⟨A, c, rfl, hc, hr⟩ := argsT_of hA
    obtain ⟨M, hM, hx, hMs, hMb⟩ := one_box w t (.slice A t.args.length c) 24
    have HR := Lib.hid hr
    have HF := Lib.hid hf
    have HN := Lib.hid hn
    have HNM := Lib.hid hnm
    have HI := Lib.hid ih
    have hsz := hf.self.2
    have hz16 := hnm t (parts_self t)
    have HKD := Lib.hid (fun W : World => rkind_any t.name W (by omega))
    have HM := Lib.hid hM
    have HMb := Lib.hid hMb
    have HMs := Lib.hid hMs
    have HX := Lib.hid (fun W (hW : Below M.heap.size M W) => box_at hx (by omega) hW)
    have HZ := Lib.hid (empty_name t.name)
    obtain ⟨L, hL⟩ : ∃ L, L = t.args.length := ⟨_, rfl⟩
    have HL := Lib.hid hL
    obtain ⟨z, hz⟩ : ∃ z, z = t.name := ⟨_, rfl⟩
    have HZN := Lib.hid hz
    obtain ⟨k, hk⟩ : ∃ z, z = t.kind := ⟨_, rfl⟩
    have HKN := Lib.hid hk
    obtain ⟨m, hm⟩ : ∃ z, z = t.num := ⟨_, rfl⟩
    have HMN := Lib.hid hm
    unfold tv
    rw [← hL] at hc hsz HR HM HX ⊢
    rw [← hz] at HM HX HZ HKD hz16 ⊢
    rw [← hk] at HM HX ⊢
    rw [← hm] at HM HX ⊢
    clear hr hf hA hn ih hM hx hMs hMb hL hz hk hm hnm
    have hnz := HL.out
    have HE0 := Lib.hid (show rightPart nameB t = if k = 1 then decide (0 ≤ m ∧ m < 1073741824) && (z.size == 0) && (L == 0)
      else if k = 2 then decide (m = 0) && nameB z
      else if k = 3 then decide (m = 0) && (z.size == 0) && decide (2 ≤ L)
      else if k = 4 then decide (m = 0) && (z.size == 0) && (L == 2) else false by
        unfold rightPart
        rw [← HKN.out, ← HMN.out, ← HZN.out, ← HL.out])
    clear hnz
    by_cases h1 : k = 1
    · subst h1
      have HE := Lib.hid (HE0.out.trans (if_pos rfl))
      clear HE0
      go_enter Tryz.func24, Tryz.ntmps24
      go_wp2
      all_goals
        go_loopw [3, 4] (fun bv i wr => ∃ (b : Bool) (j : Nat), j ≤ L ∧ i = .int .i64 j ∧ bv = .bool b ∧ RowKit.Hid (OkAt t j b) ∧ RowKit.Hid (Below M.heap.size M wr)) (fun _ i _ => L - (RowKit.intOf i).toNat)
        case atStart => exact ⟨_, 0, by omega, rfl, rfl, Lib.hid (okAt_zero (by rw [HE.out, Bool.eq_iff_iff]; have hz := HZ.out; simp_all; try omega)), Lib.hid (by rw [HM.out]; first | exact Below.refl _ _ | exact RowKit.Hid.out HB0 | (rw [‹L = 0›]; exact Below.refl _ _) | (rw [‹m = 0›]; first | exact Below.refl _ _ | exact RowKit.Hid.out HB0 | (rw [‹L = 2›]; exact Below.refl _ _)))⟩
        case round =>
          obtain ⟨b, j, hj, rfl, rfl, HO, HB⟩ := hrel
          obtain ⟨x0, x1, x2, x3⟩ := HX.out wr HB.out
          by_cases hlt : j < L
          · cases b
            · have HOF := Lib.hid (HO.out.no)
              go_wp2
              go_ret
              rw [HOF.out]
              exact ⟨rfl, HMb.out.trans (HB.out.mono HMb.out.size)⟩
            · obtain ⟨g, o, rfl, hg, hr⟩ := HR.out (by omega)
              obtain ⟨x, hx⟩ : ∃ x, t.args[j]? = some x := ⟨_, List.getElem?_eq_getElem (by have := HL.out; omega)⟩
              have hxm := List.mem_of_getElem? hx
              obtain ⟨sx, c0, c1, c2, c3, hax⟩ := ElsT.at hr hg (HMb.out.trans (HB.out.mono HMb.out.size)) hx
              obtain ⟨Ax, cx, rfl, hcx⟩ := hax.form
              have h1 := Ty.wt_lt hxm
              have HC := Lib.hid (HI.out x _ wr (by have := HN.out; omega) (HF.out.arg hxm) (fun p hp => HNM.out p (parts_mem hxm hp)) hax)
              have HO2 := Lib.hid (HO.out.next hx)
              unfold tv at HC
              clear hx hxm hax hr h1
              go_wp2_with (go_at_call 24; with_reducible (refine HC.out.mono ?_); rintro e w1 ⟨rfl, hb1⟩; have HB1 := Lib.hid (HB.out.trans (hb1.mono HB.out.size)); clear hb1)
              go_roundw
              case rel => exact ⟨_, j + 1, by omega, by go_num, rfl, HO2, HB1⟩
              case measure => simp [RowKit.intOf]; omega
          · have HOD := Lib.hid (HO.out.done (by have := HL.out; omega))
            cases b
            all_goals
              go_wp2
              go_ret
              rw [← HOD.out]
              exact ⟨rfl, HMb.out.trans (HB.out.mono HMb.out.size)⟩
    by_cases h2 : k = 2
    · subst h2
      have HE := Lib.hid ((HE0.out.trans (if_neg (by decide))).trans (if_pos rfl))
      clear HE0
      go_enter Tryz.func24, Tryz.ntmps24
      go_wp2_with (go_at_call 33; with_reducible (refine (HKD.out _).mono ?_); rintro e w1 ⟨rfl, hb1⟩; have HB0 := Lib.hid hb1; clear hb1)
      all_goals
        go_loopw [3, 4] (fun bv i wr => ∃ (b : Bool) (j : Nat), j ≤ L ∧ i = .int .i64 j ∧ bv = .bool b ∧ RowKit.Hid (OkAt t j b) ∧ RowKit.Hid (Below M.heap.size M wr)) (fun _ i _ => L - (RowKit.intOf i).toNat)
        case atStart => exact ⟨_, 0, by omega, rfl, rfl, Lib.hid (okAt_zero (by rw [HE.out, Bool.eq_iff_iff]; have hz := HZ.out; simp_all [nameB]; try omega)), Lib.hid (by rw [HM.out]; first | exact Below.refl _ _ | exact RowKit.Hid.out HB0 | (rw [‹L = 0›]; exact Below.refl _ _) | (rw [‹m = 0›]; first | exact Below.refl _ _ | exact RowKit.Hid.out HB0 | (rw [‹L = 2›]; exact Below.refl _ _)))⟩
        case round =>
          obtain ⟨b, j, hj, rfl, rfl, HO, HB⟩ := hrel
          obtain ⟨x0, x1, x2, x3⟩ := HX.out wr HB.out
          by_cases hlt : j < L
          · cases b
            · have HOF := Lib.hid (HO.out.no)
              go_wp2
              go_ret
              rw [HOF.out]
              exact ⟨rfl, HMb.out.trans (HB.out.mono HMb.out.size)⟩
            · obtain ⟨g, o, rfl, hg, hr⟩ := HR.out (by omega)
              obtain ⟨x, hx⟩ : ∃ x, t.args[j]? = some x := ⟨_, List.getElem?_eq_getElem (by have := HL.out; omega)⟩
              have hxm := List.mem_of_getElem? hx
              obtain ⟨sx, c0, c1, c2, c3, hax⟩ := ElsT.at hr hg (HMb.out.trans (HB.out.mono HMb.out.size)) hx
              obtain ⟨Ax, cx, rfl, hcx⟩ := hax.form
              have h1 := Ty.wt_lt hxm
              have HC := Lib.hid (HI.out x _ wr (by have := HN.out; omega) (HF.out.arg hxm) (fun p hp => HNM.out p (parts_mem hxm hp)) hax)
              have HO2 := Lib.hid (HO.out.next hx)
              unfold tv at HC
              clear hx hxm hax hr h1
              go_wp2_with (go_at_call 24; with_reducible (refine HC.out.mono ?_); rintro e w1 ⟨rfl, hb1⟩; have HB1 := Lib.hid (HB.out.trans (hb1.mono HB.out.size)); clear hb1)
              go_roundw
              case rel => exact ⟨_, j + 1, by omega, by go_num, rfl, HO2, HB1⟩
              case measure => simp [RowKit.intOf]; omega
          · have HOD := Lib.hid (HO.out.done (by have := HL.out; omega))
            cases b
            all_goals
              go_wp2
              go_ret
              rw [← HOD.out]
              exact ⟨rfl, HMb.out.trans (HB.out.mono HMb.out.size)⟩
    by_cases h3 : k = 3
    · subst h3
      have HE := Lib.hid (((HE0.out.trans (if_neg (by decide))).trans (if_neg (by decide))).trans (if_pos rfl))
      clear HE0
      go_enter Tryz.func24, Tryz.ntmps24
      go_wp2
      all_goals
        go_loopw [3, 4] (fun bv i wr => ∃ (b : Bool) (j : Nat), j ≤ L ∧ i = .int .i64 j ∧ bv = .bool b ∧ RowKit.Hid (OkAt t j b) ∧ RowKit.Hid (Below M.heap.size M wr)) (fun _ i _ => L - (RowKit.intOf i).toNat)
        case atStart => exact ⟨_, 0, by omega, rfl, rfl, Lib.hid (okAt_zero (by rw [HE.out, Bool.eq_iff_iff]; have hz := HZ.out; simp_all; try omega)), Lib.hid (by rw [HM.out]; first | exact Below.refl _ _ | exact RowKit.Hid.out HB0 | (rw [‹L = 0›]; exact Below.refl _ _) | (rw [‹m = 0›]; first | exact Below.refl _ _ | exact RowKit.Hid.out HB0 | (rw [‹L = 2›]; exact Below.refl _ _)))⟩
        case round =>
          obtain ⟨b, j, hj, rfl, rfl, HO, HB⟩ := hrel
          obtain ⟨x0, x1, x2, x3⟩ := HX.out wr HB.out
          by_cases hlt : j < L
          · cases b
            · have HOF := Lib.hid (HO.out.no)
              go_wp2
              go_ret
              rw [HOF.out]
              exact ⟨rfl, HMb.out.trans (HB.out.mono HMb.out.size)⟩
            · obtain ⟨g, o, rfl, hg, hr⟩ := HR.out (by omega)
              obtain ⟨x, hx⟩ : ∃ x, t.args[j]? = some x := ⟨_, List.getElem?_eq_getElem (by have := HL.out; omega)⟩
              have hxm := List.mem_of_getElem? hx
              obtain ⟨sx, c0, c1, c2, c3, hax⟩ := ElsT.at hr hg (HMb.out.trans (HB.out.mono HMb.out.size)) hx
              obtain ⟨Ax, cx, rfl, hcx⟩ := hax.form
              have h1 := Ty.wt_lt hxm
              have HC := Lib.hid (HI.out x _ wr (by have := HN.out; omega) (HF.out.arg hxm) (fun p hp => HNM.out p (parts_mem hxm hp)) hax)
              have HO2 := Lib.hid (HO.out.next hx)
              unfold tv at HC
              clear hx hxm hax hr h1
              go_wp2_with (go_at_call 24; with_reducible (refine HC.out.mono ?_); rintro e w1 ⟨rfl, hb1⟩; have HB1 := Lib.hid (HB.out.trans (hb1.mono HB.out.size)); clear hb1)
              go_roundw
              case rel => exact ⟨_, j + 1, by omega, by go_num, rfl, HO2, HB1⟩
              case measure => simp [RowKit.intOf]; omega
          · have HOD := Lib.hid (HO.out.done (by have := HL.out; omega))
            cases b
            all_goals
              go_wp2
              go_ret
              rw [← HOD.out]
              exact ⟨rfl, HMb.out.trans (HB.out.mono HMb.out.size)⟩
    by_cases h4 : k = 4
    · subst h4
      have HE := Lib.hid ((((HE0.out.trans (if_neg (by decide))).trans (if_neg (by decide))).trans (if_neg (by decide))).trans (if_pos rfl))
      clear HE0
      go_enter Tryz.func24, Tryz.ntmps24
      go_wp2
      all_goals
        go_loopw [3, 4] (fun bv i wr => ∃ (b : Bool) (j : Nat), j ≤ L ∧ i = .int .i64 j ∧ bv = .bool b ∧ RowKit.Hid (OkAt t j b) ∧ RowKit.Hid (Below M.heap.size M wr)) (fun _ i _ => L - (RowKit.intOf i).toNat)
        case atStart => exact ⟨_, 0, by omega, rfl, rfl, Lib.hid (okAt_zero (by rw [HE.out, Bool.eq_iff_iff]; have hz := HZ.out; simp_all; try omega)), Lib.hid (by rw [HM.out]; first | exact Below.refl _ _ | exact RowKit.Hid.out HB0 | (rw [‹L = 0›]; exact Below.refl _ _) | (rw [‹m = 0›]; first | exact Below.refl _ _ | exact RowKit.Hid.out HB0 | (rw [‹L = 2›]; exact Below.refl _ _)))⟩
        case round =>
          obtain ⟨b, j, hj, rfl, rfl, HO, HB⟩ := hrel
          obtain ⟨x0, x1, x2, x3⟩ := HX.out wr HB.out
          by_cases hlt : j < L
          · cases b
            · have HOF := Lib.hid (HO.out.no)
              go_wp2
              go_ret
              rw [HOF.out]
              exact ⟨rfl, HMb.out.trans (HB.out.mono HMb.out.size)⟩
            · obtain ⟨g, o, rfl, hg, hr⟩ := HR.out (by omega)
              obtain ⟨x, hx⟩ : ∃ x, t.args[j]? = some x := ⟨_, List.getElem?_eq_getElem (by have := HL.out; omega)⟩
              have hxm := List.mem_of_getElem? hx
              obtain ⟨sx, c0, c1, c2, c3, hax⟩ := ElsT.at hr hg (HMb.out.trans (HB.out.mono HMb.out.size)) hx
              obtain ⟨Ax, cx, rfl, hcx⟩ := hax.form
              have h1 := Ty.wt_lt hxm
              have HC := Lib.hid (HI.out x _ wr (by have := HN.out; omega) (HF.out.arg hxm) (fun p hp => HNM.out p (parts_mem hxm hp)) hax)
              have HO2 := Lib.hid (HO.out.next hx)
              unfold tv at HC
              clear hx hxm hax hr h1
              go_wp2_with (go_at_call 24; with_reducible (refine HC.out.mono ?_); rintro e w1 ⟨rfl, hb1⟩; have HB1 := Lib.hid (HB.out.trans (hb1.mono HB.out.size)); clear hb1)
              go_roundw
              case rel => exact ⟨_, j + 1, by omega, by go_num, rfl, HO2, HB1⟩
              case measure => simp [RowKit.intOf]; omega
          · have HOD := Lib.hid (HO.out.done (by have := HL.out; omega))
            cases b
            all_goals
              go_wp2
              go_ret
              rw [← HOD.out]
              exact ⟨rfl, HMb.out.trans (HB.out.mono HMb.out.size)⟩
    have HE := Lib.hid ((((HE0.out.trans (if_neg h1)).trans (if_neg h2)).trans (if_neg h3)).trans (if_neg h4))
    clear HE0
    have b1 : (k == 1) = false := by simp [h1]
    have b2 : (k == 2) = false := by simp [h2]
    have b3 : (k == 3) = false := by simp [h3]
    have b4 : (k == 4) = false := by simp [h4]
    go_enter Tryz.func24, Tryz.ntmps24
    go_wp2
    all_goals
      go_loopw [3, 4] (fun bv i wr => ∃ (b : Bool) (j : Nat), j ≤ L ∧ i = .int .i64 j ∧ bv = .bool b ∧ RowKit.Hid (OkAt t j b) ∧ RowKit.Hid (Below M.heap.size M wr)) (fun _ i _ => L - (RowKit.intOf i).toNat)
      case atStart => exact ⟨_, 0, by omega, rfl, rfl, Lib.hid (okAt_zero (by rw [HE.out])), Lib.hid (by rw [HM.out]; first | exact Below.refl _ _ | exact RowKit.Hid.out HB0 | (rw [‹L = 0›]; exact Below.refl _ _) | (rw [‹m = 0›]; first | exact Below.refl _ _ | exact RowKit.Hid.out HB0 | (rw [‹L = 2›]; exact Below.refl _ _)))⟩
      case round =>
        obtain ⟨b, j, hj, rfl, rfl, HO, HB⟩ := hrel
        obtain ⟨x0, x1, x2, x3⟩ := HX.out wr HB.out
        by_cases hlt : j < L
        · cases b
          · have HOF := Lib.hid (HO.out.no)
            go_wp2
            go_ret
            rw [HOF.out]
            exact ⟨rfl, HMb.out.trans (HB.out.mono HMb.out.size)⟩
          · obtain ⟨g, o, rfl, hg, hr⟩ := HR.out (by omega)
            obtain ⟨x, hx⟩ : ∃ x, t.args[j]? = some x := ⟨_, List.getElem?_eq_getElem (by have := HL.out; omega)⟩
            have hxm := List.mem_of_getElem? hx
            obtain ⟨sx, c0, c1, c2, c3, hax⟩ := ElsT.at hr hg (HMb.out.trans (HB.out.mono HMb.out.size)) hx
            obtain ⟨Ax, cx, rfl, hcx⟩ := hax.form
            have h1 := Ty.wt_lt hxm
            have HC := Lib.hid (HI.out x _ wr (by have := HN.out; omega) (HF.out.arg hxm) (fun p hp => HNM.out p (parts_mem hxm hp)) hax)
            have HO2 := Lib.hid (HO.out.next hx)
            unfold tv at HC
            clear hx hxm hax hr h1
            go_wp2_with (go_at_call 24; with_reducible (refine HC.out.mono ?_); rintro e w1 ⟨rfl, hb1⟩; have HB1 := Lib.hid (HB.out.trans (hb1.mono HB.out.size)); clear hb1)
            go_roundw
            case rel => exact ⟨_, j + 1, by omega, by go_num, rfl, HO2, HB1⟩
            case measure => simp [RowKit.intOf]; omega
        · have HOD := Lib.hid (HO.out.done (by have := HL.out; omega))
          cases b
          all_goals
            go_wp2
            go_ret
            rw [← HOD.out]
            exact ⟨rfl, HMb.out.trans (HB.out.mono HMb.out.size)⟩
set_option maxHeartbeats 2000000 in
theorem rRight_any (t : Ty) (s : Value) (w : World) (hm : t.wt ≤ 1000000) (hf : fit t) (hnm : ∀ p ∈ parts t, p.name.size ≤ 16000) (hA : IsA w (Old w) t.args s) :
    Calls Tryz.prog 10 #[tv t s] w fun e w' => e = .returned (.bool (rightF nameB t)) ∧ Below w.heap.size w w' := by
  obtain ⟨A, c, rfl, -⟩ := hA.form
  obtain ⟨M, hM, hx, hMs, hMb⟩ := one_box w t (.slice A t.args.length c) 24
  have hAM : ∀ W, Below M.heap.size M W → IsA W (Old W) t.args (.slice A t.args.length c) := fun W hW => hA.after (hMb.trans (hW.mono hMb.size))
  have HC := Lib.hid (fun W (hW : W = M) => hW ▸ count_any t.wt t _ M (Nat.le_refl _) hm hf (hAM M (Below.refl _ _)))
  have HR := Lib.hid (fun W (hW : Below M.heap.size M W) => rright_any t.wt t _ W (Nat.le_refl _) hf hnm (hAM W hW))
  have HX := Lib.hid (fun W (hW : Below M.heap.size M W) => box_at hx (by omega) hW)
  have HM := Lib.hid hM
  have HMb := Lib.hid hMb
  have HRO := Lib.hid (right_okB t)
  obtain ⟨q, hq⟩ : ∃ q, q = t.wt := ⟨_, rfl⟩
  unfold CountPost at HC
  rw [← hq] at HC HRO
  unfold tv at *
  clear hA hM hx hMs hMb hAM hf hnm hm hq
  go_enter Tryz.func10, Tryz.ntmps10
  go_wp2_with fail
  refine (HC.out _ HM.out.symm).mono ?_
  rintro e w1 ⟨k, rfl, hk, hb⟩
  have HB1 := Lib.hid (show Below M.heap.size M w1 by first | exact hb | (rw [HM.out]; exact hb) | (rw [← HM.out] at hb; exact hb))
  have HK := Lib.hid hk
  clear hb hk HC
  obtain ⟨x0, x1, x2, x3⟩ := HX.out w1 HB1.out
  by_cases h3 : k ≤ 300
  · have HRR := Lib.hid (HR.out w1 HB1.out)
    go_wp2_with (go_at_call 24; with_reducible (refine HRR.out.mono ?_); rintro e w2 ⟨rfl, hb2⟩; have HB2 := Lib.hid (HB1.out.trans (hb2.mono HB1.out.size)); clear hb2)
    go_ret
    rw [HRO.out, show decide (q ≤ 300) = true from decide_eq_true (by have := HK.out; omega), Bool.true_and]
    exact ⟨rfl, HMb.out.trans (HB2.out.mono HMb.out.size)⟩
  · go_wp2
    go_ret
    rw [HRO.out, show decide (q ≤ 300) = false from decide_eq_false (by have := HK.out; omega)]
    exact ⟨rfl, HMb.out.trans (HB1.out.mono HMb.out.size)⟩
end Go.Proofs.YtmpmibebkflaiaaGreatDoor
