/- FramePieces' walk. -/
import Derived.Test.YtphnplpgeoleeaaDoorFraAll
import Derived.Test.YtphnplpgeoleeaaDoorInts
namespace Go.Proofs.YtphnplpgeoleeaaDoor
open Go.RowKit Go.Lib Go.Shelf
set_option maxRecDepth 100000
set_option linter.unusedVariables false
set_option linter.unusedSectionVars false

theorem and_255 (x : Int) : ∃ m : Nat, bits BinOp.and IntKind.i64 x 255 = m ∧ m ≤ 255 := by
  have e2 : (BitVec.ofInt 64 (255 : Int)).toNat = 255 := by decide
  refine ⟨((BitVec.ofInt 64 x).toNat &&& 255), ?_, Nat.and_le_right⟩
  have hle : ((BitVec.ofInt 64 x).toNat &&& 255) ≤ 255 := Nat.and_le_right
  show IntKind.i64.wrap ((BitVec.ofInt 64 x &&& BitVec.ofInt 64 (255 : Int)).toNat : Int) = _
  rw [BitVec.toNat_and, e2]
  exact IntWalk.i64_in _ (by omega)
theorem argB_kx {X : Nat → Prop} {ws wr : World} (hk : Kx X ws wr) {v : Value} {l : List UInt8} (ha : ArgB ws v l) (hne : ∀ a m k, v = .slice (some a) m k → 0 < m → ¬ X a.block) : ArgB wr v l := by
  obtain ⟨⟨hl, A, k, e, hc, hr⟩, h2⟩ := ha
  refine ⟨⟨hl, A, k, e, hc, fun hp => ?_⟩, h2⟩
  obtain ⟨b, o, rfl, hb, hr⟩ := hr hp
  refine ⟨b, o, rfl, Nat.lt_of_lt_of_le hb hk.2.2.2.1, fun j hj => ?_⟩
  have hblk := hk.2.2.2.2 b hb (hne _ _ _ e hp)
  rw [← hr j hj]
  unfold World.cell?
  rw [show (⟨b, o + j, none⟩ : Addr).block = b from rfl, hblk]
/-- bytes that lie in block g. -/
def PartB (w : World) (g : Nat) (v : Value) (l : List UInt8) : Prop := ArgB w v l ∧ (∀ a m k, v = .slice (some a) m k → 0 < m → a.block = g) ∧ ∃ a m k, v = .slice (some a) m k
theorem PartB.take {w : World} {g n c : Nat} {A : Option Addr} {l : List UInt8} (h : PartB w g (.slice A n c) l) (m : Nat) (hm : m ≤ n) : PartB w g (.slice A m c) (l.take m) := by
  obtain ⟨h1, h2, a, m', k', e⟩ := h
  simp only [Value.slice.injEq] at e
  obtain ⟨rfl, rfl, rfl⟩ := e
  refine ⟨h1.take m hm, fun a2 m2 k2 e hp => ?_, _, _, _, rfl⟩
  simp only [Value.slice.injEq, Option.some.injEq] at e
  obtain ⟨rfl, rfl, rfl⟩ := e
  exact h2 _ _ _ rfl (by omega)
theorem PartB.drop {w : World} {g n c : Nat} {ad : Addr} {l : List UInt8} (h : PartB w g (.slice (some ad) n c) l) (m : Nat) (hm : m ≤ n) (hc : m < c) : PartB w g (.slice (some (ad.add m)) (n - m) (c - m)) (l.drop m) := by
  obtain ⟨h1, h2, -⟩ := h
  have h1' := h1
  refine ⟨h1.drop m hm hc, fun a2 m2 k2 e hp => ?_, _, _, _, rfl⟩
  simp only [Value.slice.injEq, Option.some.injEq] at e
  obtain ⟨rfl, rfl, rfl⟩ := e
  have hg := h2 ad n c rfl (by omega)
  obtain ⟨⟨_, A, c', e', _, hr⟩, _⟩ := h1'
  simp only [Value.slice.injEq] at e'
  obtain ⟨e1, e2, rfl⟩ := e'
  obtain ⟨g', o, e3, _, _⟩ := hr (by omega)
  rw [e3, Option.some.injEq] at e1
  subst e1
  rw [add_off]
  exact hg
theorem PartB.full {w : World} {g n : Nat} {ad : Addr} {l : List UInt8} (h : PartB w g (.slice (some ad) n n) l) : PartB w g (.slice (some ad) 0 0) (l.drop n) := by
  obtain ⟨h1, h2, -⟩ := h
  have : l.length = n := argB_len h1
  rw [List.drop_eq_nil_of_le (by omega)]
  refine ⟨ArgB.empty _ _ _, fun a2 m2 k2 e hp => ?_, _, _, _, rfl⟩
  simp only [Value.slice.injEq, Option.some.injEq] at e
  omega
theorem part_rest {w : World} {g n c m : Nat} {ad : Addr} {l : List UInt8} (h : PartB w g (.slice (some ad) n c) l) (hm : m ≤ n) (hn : n ≤ c) : PartB w g (.slice (if c = m then some ad else some (ad.add m)) (n - m) (c - m)) (l.drop m) := by
  by_cases hc : c = m
  · obtain rfl : n = m := by omega
    subst hc
    rw [if_pos rfl, Nat.sub_self]
    exact h.full
  · rw [if_neg hc]
    exact h.drop m hm (by omega)
/-- pieces that were cut off, and the rest. -/
def PcI (B g : Nat) (w2 wr : World) (u rv : Value) (ls : List (List UInt8)) (rest b : List UInt8) : Prop :=
  (∃ vs, wr.ownsRow B 27 1 u ls.length vs ∧ ∀ (i : Nat) x, ls[i]? = some x → ∃ y, vs[i]? = some y ∧ PartB w2 g y x) ∧ PartB w2 g rv rest ∧ Kx (fun h => B ≤ h ∧ h ≠ g) w2 wr ∧ joinL ls ++ rest = b
theorem kx_not {B g : Nat} {w2 wr : World} {n : Nat} {u : Value} {vs : List Value} (hk : Kx (fun h => B ≤ h ∧ h ≠ g) w2 wr) (hown : wr.ownsRow B 27 1 u n vs) (hG : ∃ cur fr, w2.heap[g]? = some (.cells cur 5 fr)) (h : Nat) (hh : u.ownBlock = some h) : B ≤ h ∧ h ≠ g := by
  obtain ⟨cur, fr, hG⟩ := hG
  refine ⟨(hown.lt h hh).1, ?_⟩
  rintro rfl
  have h1 : wr.heap[h]? = some (.cells cur 5 fr) := (hk.2.2.2.2 h (Array.getElem?_eq_some_iff.1 hG).1 (fun hx => hx.2 rfl)).trans hG
  rcases hown.2 with ⟨rfl, _⟩ | ⟨g', cap, cur', rfl, _, hgg, _⟩
  · simp [Value.ownBlock] at hh
  · simp only [Value.ownBlock, Option.some.injEq] at hh
    subst hh
    rw [h1] at hgg
    simp at hgg
theorem pcI_next {B g n : Nat} {w2 wr w' : World} {u v' rv' y : Value} {vs : List Value} {ls : List (List UInt8)} {rest b : List UInt8} {o : Obj} (hown : wr.ownsRow B 27 1 u ls.length vs) (hel : ∀ (i : Nat) x, ls[i]? = some x → ∃ y, vs[i]? = some y ∧ PartB w2 g y x) (hk : Kx (fun h => B ≤ h ∧ h ≠ g) w2 wr) (hj : joinL ls ++ rest = b)
    (hp : PartB w2 g y (rest.take n)) (hr : PartB w2 g rv' (rest.drop n)) (hown' : w'.ownsRow B 27 1 v' (ls.length + 1) (vs ++ [y])) (hg : (wr.alloc o).grownBy w' u.ownBlock) (hG : ∃ cur fr, w2.heap[g]? = some (.cells cur 5 fr)) : PcI B g w2 w' v' rv' (ls ++ [rest.take n]) (rest.drop n) b := by
  have hvl : vs.length = ls.length := by have := hown.1; omega
  refine ⟨⟨vs ++ [y], by rw [List.length_append]; exact hown', fun i x hi => ?_⟩, hr, ?_, ?_⟩
  · rcases Nat.lt_or_ge i ls.length with h | h
    · rw [List.getElem?_append_left h] at hi
      obtain ⟨z, hz, hpz⟩ := hel i x hi
      exact ⟨z, by rw [List.getElem?_append_left (by omega)]; exact hz, hpz⟩
    · rw [List.getElem?_append_right h] at hi
      have hi0 : i - ls.length = 0 := by
        have := (List.getElem?_eq_some_iff.1 hi).1
        simp at this
        omega
      rw [hi0] at hi
      simp at hi
      subst hi
      exact ⟨y, by rw [List.getElem?_append_right (by omega), hvl, hi0]; rfl, hp⟩
  · exact (hk.trans (Kx.of_below (X := fun h => B ≤ h ∧ h ≠ g) ((Below.refl wr.heap.size wr).alloc (Nat.le_refl _) o)) (fun _ _ h => h)).trans (Kx.grown (X := fun h => B ≤ h ∧ h ≠ g) hg (fun h hh => kx_not hk hown hG h hh)) (fun _ _ h => h)
  · rw [← hj]
    simp [joinL, List.take_append_drop]
theorem pcI_argR {B g : Nat} {w2 wr : World} {u rv : Value} {ls : List (List UInt8)} {rest b : List UInt8} (h : PcI B g w2 wr u rv ls rest b) : ArgR wr u ls := by
  obtain ⟨⟨vs, hown, hel⟩, -, hk, -⟩ := h
  refine ⟨vs, Rd.of_own hown, own_form hown, fun i x hi => ?_⟩
  obtain ⟨y, hy, hp⟩ := hel i x hi
  exact ⟨y, hy, argB_kx hk hp.1 (fun a m k e hp0 hx => hx.2 (hp.2.1 a m k e hp0))⟩
theorem feedL_small : ∀ (k : Nat) (l : List UInt8), l.length ≤ k → ∀ x ∈ (feedL l).1, x.length ≤ l.length := by
  intro k
  induction k with
  | zero =>
    intro l hl x hx
    obtain rfl : l = [] := List.eq_nil_of_length_eq_zero (by omega)
    rw [feedL_nil] at hx
    simp at hx
  | succ k ih =>
    intro l hl x hx
    obtain ⟨s, n, e, hm⟩ : ∃ s n e, measF l = (s, n, e) := ⟨_, _, _, rfl⟩
    by_cases he : e = 0
    · subst he
      by_cases hs : s = 0 ∨ l.length < s + n
      · rw [feedL_stop hm hs] at hx
        simp at hx
      · rw [feedL_step hm (by omega) (by omega)] at hx
        rcases List.mem_cons.1 hx with rfl | hx
        · rw [List.length_take, List.length_drop]
          omega
        · have h := ih (l.drop (s + n)) (by rw [List.length_drop]; omega) x hx
          rw [List.length_drop] at h
          omega
    · rw [feedL_bad hm he] at hx
      simp at hx
set_option maxHeartbeats 4000000 in
theorem framePieces_walk (v0 : Value) (l0 : List UInt8) (v1 : Value) (l1 : List Int) (w : World) (h0' : ArgBS w v0 l0) (h1 : ArgI w v1 l1) (hT : Pow w) (hM : MaxL w) : Calls Tryd.prog 5 #[v0, v1] w (TruePost w) := by
  have HAL := Lib.hid (alive_any w hT hM)
  have HM := Lib.hid hM
  have hML := maxL_lt hM
  obtain ⟨h0, hs0⟩ := h0'
  have H0 := Lib.hid h0
  obtain ⟨A0, c0, rfl, hc0⟩ := h0.shape
  obtain ⟨⟨hl1, A1, c1, rfl, hc1, hr1⟩, -⟩ := h1
  obtain ⟨n1, hn1⟩ : ∃ n1, n1 = l1.length := ⟨_, rfl⟩
  rw [← hn1] at hc1 hr1 ⊢
  have HN1 := Lib.hid hn1
  have R1 := Lib.hid hr1
  clear h0 hT hM hl1 hr1 hn1
  go_enter Tryd.func5, Tryd.ntmps5
  go_wp2_with fail
  refine HAL.out.mono ?_
  rintro e w1 ⟨rfl, hb1⟩
  have HB1 := Lib.hid hb1
  clear hb1
  by_cases hbig : (100000 : Int) < (l0.length : Int)
  · have hg := decide_eq_true hbig
    go_wp2
    go_ret
    exact ⟨rfl, HB1.out⟩
  by_cases hbig1 : (100 : Int) < (n1 : Int)
  · have hg := decide_eq_false hbig
    have hg1 := decide_eq_true hbig1
    go_wp2
    go_ret
    exact ⟨rfl, HB1.out⟩
  have hg := decide_eq_false hbig
  have hg1 := decide_eq_false hbig1
  have hsz : l0.length ≤ 100000 := by omega
  have hsn : n1 ≤ 100 := by omega
  clear hbig hbig1
  obtain ⟨B, hBe⟩ : ∃ B, B = w1.heap.size := ⟨_, rfl⟩
  have hb2 := (Below.refl w1.heap.size w1).alloc (Nat.le_refl _) (.cells #[] 27)
  have HP0 := Lib.hid (World.ownsRow_lit (e := 27) (size := 1) w1 #[] 0 (Nat.le_refl _) (by unfold maxLen; omega) rfl)
  go_wp2_with fail
  refine (copyBytes_any _ l0 _ (argB_below H0.out (HB1.out.trans (hb2.mono HB1.out.size))) (by omega)).mono ?_
  rintro e w2 ⟨v2, rfl, ho2, hb3⟩
  obtain ⟨g, c2, hv2, hg2, hgl⟩ := own_some ho2.out.2 ho2.out.1
  subst hv2
  have HB2 := Lib.hid (HB1.out.trans ((hb2.trans (hb3.mono hb2.size)).mono HB1.out.size))
  have HG := Lib.hid (show ∃ cur fr, w2.heap[g]? = some (.cells cur 5 fr) by
    rcases ho2.out.2.2 with ⟨h, _⟩ | ⟨g', cap, cur, h, _, hgg, _⟩
    · simp at h
    · simp only [Value.slice.injEq, Option.some.injEq, Addr.mk.injEq, and_true, true_and] at h
      obtain ⟨rfl, _⟩ := h
      exact ⟨_, _, hgg⟩)
  have HI0 := Lib.hid (show PcI B g w2 w2 (.slice (some ⟨w1.heap.size, 0, none⟩) 0 0) (.slice (some ⟨g, 0, none⟩) l0.length c2) [] l0 l0 from
    ⟨⟨[], own_keep (by rw [hBe]; exact HP0.out) hb3, fun i x h => by simp at h⟩, ⟨own_argB ho2.out.2, fun a m k e _ => by
      simp only [Value.slice.injEq, Option.some.injEq] at e
      rw [← e.1], _, _, _, rfl⟩, kx_refl _ _, by simp [joinL]⟩)
  have hBs : w.heap.size ≤ B := by have := HB1.out.size; omega
  have hB2 : B ≤ w2.heap.size := by have := hb3.size; simp at this; omega
  clear ho2 hb3 hb2 hg2 HP0
  obtain ⟨i2, hi2, hy0, hy1, hy2⟩ := info_parts infoRow
  go_wp2
  go_loopw [5, 6, 7] (fun u rv iv wr => ∃ (k : Nat) (ls : List (List UInt8)) (rest : List UInt8), iv = .int .i64 k ∧ k ≤ n1 ∧ ls.length = k ∧ RowKit.Hid (PcI B g w2 wr u rv ls rest l0)) (fun _ _ iv _ => n1 - (RowKit.intOf iv).toNat)
  case atStart => exact ⟨0, [], l0, rfl, Nat.zero_le _, rfl, HI0.out⟩
  case round =>
    obtain ⟨k, ls, rest, rfl, hk, hlk, HI⟩ := hrel
    have HLK := Lib.hid hlk
    obtain ⟨⟨vs, hown, hel⟩, hpart, hkx, hj⟩ := HI.out
    have HBr := Lib.hid (HB2.out.trans ((hkx.below hB2 (fun h hh => hh.1)).mono hBs))
    have HBR := Lib.hid (hkx.below hB2 (fun h hh => hh.1))
    obtain ⟨ad, m, cr, hrv⟩ := hpart.2.2
    subst hrv
    have hml : rest.length = m := argB_len hpart.1
    have hmc : m ≤ cr := by
      obtain ⟨⟨_, A, c, e, hc, _⟩, _⟩ := hpart.1
      simp only [Value.slice.injEq] at e
      omega
    have hmT : m ≤ 100000 := by
      have h := congrArg List.length hj
      rw [List.length_append] at h
      omega
    rw [hlk] at hown
    obtain ⟨Au, cu, hu⟩ := own_shape hown
    subst hu
    have HOWN := Lib.hid hown
    have HEL := Lib.hid hel
    have HKX := Lib.hid hkx
    have HJ := Lib.hid hj
    have HPT := Lib.hid hpart
    clear hel hkx hj hpart hown hml hlk
    by_cases hkn : k < n1
    · obtain ⟨g1, o1, rfl, hg1b, hr1⟩ := R1.out (by omega)
      obtain ⟨z, hz⟩ : ∃ z, l1[k]? = some z := ⟨l1[k]'(by have := HN1.out; omega), List.getElem?_eq_getElem _⟩
      have a1 : wr.cell? ⟨g1, o1 + k, none⟩ = some (.int .i64 z) := by
        rw [HBr.out.cell (p := ⟨g1, o1 + k, none⟩) hg1b, hr1 k (by omega)]
        exact intsV_get hz
      obtain ⟨q, hq, hq5⟩ := and_255 z
      clear hr1 hz
      by_cases hqm : (m : Int) < (q : Int)
      · have hg3 := decide_eq_true hqm
        have HPY := Lib.hid (HPT.out.take m (Nat.le_refl _))
        have HPR := Lib.hid (part_rest HPT.out (Nat.le_refl m) hmc)
        go_wp2_with (at_builtin; refine wpList_append_own _ rfl _ _ 22 rfl B 27 i2 _ 1 24 Tryd.underlying22 hi2 hy0 hy1 hy2 rfl (by decide) _ k vs rfl (HOWN.out.alloc _) ⟨wr.heap.size, 0, none⟩ 1 1 [.slice (some ad) m cr] rfl rfl (cell_one_new _ _ _) (by intro u hu; simp only [List.mem_singleton] at hu; subst hu; rfl) (by unfold maxLen; omega) (by omega) (by have := HBR.out.size; simp; omega) ?_; intro v4 w4 hown4 hgrow4 hnil4; have HNX := Lib.hid (fun rv' (hr : PartB w2 g rv' (rest.drop m)) => pcI_next (by rw [HLK.out]; exact HOWN.out) HEL.out HKX.out HJ.out HPY.out hr (by rw [HLK.out]; exact hown4) hgrow4 HG.out); clear hown4 hgrow4 hnil4)
        exact ⟨⟨k + 1, _, _, by go_num, by omega, by rw [List.length_append, HLK.out]; rfl, HNX.out _ (by have h := HPR.out; rwa [Nat.sub_self] at h)⟩, by simp [RowKit.intOf] <;> omega⟩
      · have hg3 := decide_eq_false hqm
        have hqm2 : q ≤ m := by omega
        have HPY := Lib.hid (HPT.out.take q hqm2)
        have HPR := Lib.hid (part_rest HPT.out hqm2 hmc)
        clear hqm
        go_wp2_with (at_builtin; refine wpList_append_own _ rfl _ _ 22 rfl B 27 i2 _ 1 24 Tryd.underlying22 hi2 hy0 hy1 hy2 rfl (by decide) _ k vs rfl (HOWN.out.alloc _) ⟨wr.heap.size, 0, none⟩ 1 1 [.slice (some ad) q cr] rfl rfl (cell_one_new _ _ _) (by intro u hu; simp only [List.mem_singleton] at hu; subst hu; rfl) (by unfold maxLen; omega) (by omega) (by have := HBR.out.size; simp; omega) ?_; intro v4 w4 hown4 hgrow4 hnil4; have HNX := Lib.hid (fun rv' (hr : PartB w2 g rv' (rest.drop q)) => pcI_next (by rw [HLK.out]; exact HOWN.out) HEL.out HKX.out HJ.out HPY.out hr (by rw [HLK.out]; exact hown4) hgrow4 HG.out); clear hown4 hgrow4 hnil4)
        exact ⟨⟨k + 1, _, _, by go_num, by omega, by rw [List.length_append, HLK.out]; rfl, HNX.out _ HPR.out⟩, by simp [RowKit.intOf] <;> omega⟩
    · have HPY := Lib.hid (HPT.out.take m (Nat.le_refl _))
      go_wp2_with (at_builtin; refine wpList_append_own _ rfl _ _ 22 rfl B 27 i2 _ 1 24 Tryd.underlying22 hi2 hy0 hy1 hy2 rfl (by decide) _ k vs rfl (HOWN.out.alloc _) ⟨wr.heap.size, 0, none⟩ 1 1 [.slice (some ad) m cr] rfl rfl (cell_one_new _ _ _) (by intro u hu; simp only [List.mem_singleton] at hu; subst hu; rfl) (by unfold maxLen; omega) (by omega) (by have := HBR.out.size; simp; omega) ?_; intro v4 w4 hown4 hgrow4 hnil4; have HNX := Lib.hid (fun rv' (hr : PartB w2 g rv' (rest.drop m)) => pcI_next (by rw [HLK.out]; exact HOWN.out) HEL.out HKX.out HJ.out HPY.out hr (by rw [HLK.out]; exact hown4) hgrow4 HG.out); clear hown4 hgrow4 hnil4)
      have HPC := Lib.hid (HNX.out _ (part_rest HPT.out (Nat.le_refl m) hmc))
      have hjp : joinL (ls ++ [rest.take m]) = l0 := by
        have h := HPC.out.2.2.2
        have hml : rest.length = m := argB_len HPT.out.1
        rw [List.drop_eq_nil_of_le (by omega), List.append_nil] at h
        exact h
      have HK4 := Lib.hid HPC.out.2.2.1
      have HBB4 := Lib.hid (HK4.out.below hB2 (fun h hh => hh.1))
      have HB4 := Lib.hid (HB2.out.trans (HBB4.out.mono hBs))
      have hal := all_any v4 (ls ++ [rest.take m]) w4 (pcI_argR HPC.out) (by rw [hjp]; omega) (by rw [List.length_append, HLK.out]; simp; omega) (maxL_below HM.out HB4.out hML)
      obtain ⟨fb, fr, fe, hfl⟩ : ∃ fb fr fe, feedL l0 = (fb, fr, fe) := ⟨_, _, _, rfl⟩
      have hsm : smallRows fb := fun x hx => by
        have h := feedL_small _ l0 (Nat.le_refl _) x (by rw [hfl]; exact hx)
        omega
      have hfl2 := feedL_rest _ l0 (Nat.le_refl _)
      rw [hfl] at hfl2
      have hfbl : fb.length ≤ 100000 := by have := hfl2.2; dsimp only at this; omega
      unfold AllPost at hal
      rw [hjp, hfl] at hal
      have HAL1 := Lib.hid hal
      have HFL := Lib.hid hfl
      clear hal hjp hfl hfl2
      go_wp2_with fail
      refine HAL1.out.mono ?_
      rintro e w5 ⟨A5, c5, rfl, ha5, hb5⟩
      have HA5 := Lib.hid ha5
      have HB5 := Lib.hid (HB4.out.trans (hb5.mono HB4.out.size))
      have hb6 := (Below.refl w5.heap.size w5).alloc (Nat.le_refl _) (.cells #[.slice A0 l0.length c0] 27)
      have HB6 := Lib.hid (HB5.out.trans (hb6.mono HB5.out.size))
      have hal2 := all_any _ [l0] _ (one_argR w5 (.slice A0 l0.length c0) l0 (argB_below H0.out HB5.out)) (by simp [joinL]; omega) (by simp) (maxL_below HM.out HB6.out hML)
      unfold AllPost at hal2
      rw [show joinL [l0] = l0 by simp [joinL], HFL.out] at hal2
      have HAL2 := Lib.hid hal2
      have HB56 := Lib.hid hb6
      clear hal2 ha5 hb5 hb6
      go_wp2_with fail
      refine HAL2.out.mono ?_
      rintro e w7 ⟨A7, c7, rfl, ha7, hb7⟩
      have HA7 := Lib.hid ha7
      have HB7 := Lib.hid (HB6.out.trans (hb7.mono HB6.out.size))
      have HSR := Lib.hid (sameRows_any _ _ fb fb w7 (HA5.out.below (HB56.out.trans (hb7.mono HB56.out.size))) HA7.out hsm hsm (by omega) (by omega))
      clear ha7 hb7
      go_wp2_with fail
      refine HSR.out.mono ?_
      rintro e w8 ⟨he8, q8, rfl⟩
      rw [decide_eq_true rfl] at he8
      subst he8
      go_wp2
      go_ret
      exact ⟨rfl, below_drewN HB7.out q8⟩
end Go.Proofs.YtphnplpgeoleeaaDoor
