/- The contracts of utf's split and Units. -/
import Derived.Test.YtdeihlbnlogjcaaDoorUtfV
namespace Go.Proofs.YtdeihlbnlogjcaaDoor
open Go.RowKit Go.Lib Go.Shelf
set_option maxRecDepth 100000
set_option linter.unusedVariables false
set_option linter.unusedSectionVars false

theorem rd_int {w : World} {g o n : Nat} {l : List Int} (hr : ∀ j, j < n * 1 → w.cell? ⟨g, o + j, none⟩ = (intsV l)[j]?) (hn : n = l.length) {k : Nat} (h : k < n) : ∃ x, l[k]? = some x ∧ w.cell? ⟨g, o + k, none⟩ = some (.int .i64 x) := by
  subst hn
  refine ⟨l[k], List.getElem?_eq_getElem h, ?_⟩
  rw [hr k (by omega)]
  exact intsV_get (List.getElem?_eq_getElem h)
def IntsPost (l : List Int) (w : World) (e : Ending) (w' : World) : Prop := ∃ v, e = .returned v ∧ Ints w.heap.size l v w' ∧ Below w.heap.size w w'
theorem units_take {rs : List Int} {k : Nat} {r : Int} (h : rs[k]? = some r) : Ut.unitsF (rs.take (k + 1)) = Ut.unitsF (rs.take k) ++ Ut.unitsR r := by
  rw [List.take_add_one, h, Ut.units_app]
  simp [Ut.unitsF]
theorem units_count (rs : List Int) : (Ut.unitsF rs).length ≤ 2 * rs.length := by
  induction rs with
  | nil => simp [Ut.unitsF]
  | cons r rs ih =>
    rw [Ut.units_cons, List.length_append, List.length_cons]
    have : (Ut.unitsR r).length ≤ 2 := by unfold Ut.unitsR; split <;> simp
    omega
/-- what an append of the call's own leaves. -/
theorem ints_next {w W1 w3 : World} {acc news : List Int} {v v' : Value} {o : Obj} {m : Nat} (hm : news.length = m) (hm0 : m ≠ 0) (hb : Below w.heap.size w W1) (ho : W1.ownsRow w.heap.size 3 1 v acc.length (intsV acc))
    (hown : w3.ownsRow w.heap.size 3 1 v' (acc.length + m) (intsV acc ++ intsV news)) (hg : (W1.alloc o).grownBy w3 v.ownBlock) (hnil : v' = .slice none 0 0 ↔ v = .slice none 0 0 ∧ m = 0) :
    Ints w.heap.size (acc ++ news) v' w3 ∧ Below w.heap.size w w3 := by
  refine ⟨⟨fun e => hm0 (hnil.1 e).2, ?_⟩, (hb.alloc hb.size o).grown hg (by have := hb.size; simp; omega) (fun j e => (ho.lt j e).1)⟩
  rw [intsV_app, List.length_append, hm]
  exact hown
theorem and_1023 (x : Int) (h0 : 0 ≤ x) (h1 : x ≤ 1099511627776) : bits BinOp.and IntKind.i64 x 1023 = x % 1024 := by
  obtain ⟨a, rfl⟩ := Int.eq_ofNat_of_zero_le h0
  have e1 : (BitVec.ofInt 64 (a : Int)).toNat = a := by
    rw [BitVec.ofInt_natCast, BitVec.toNat_ofNat]; exact Nat.mod_eq_of_lt (by omega)
  have e2 : (BitVec.ofInt 64 (1023 : Int)).toNat = 1023 := by decide
  show IntKind.i64.wrap ((BitVec.ofInt 64 (a : Int) &&& BitVec.ofInt 64 (1023 : Int)).toNat : Int) = _
  rw [BitVec.toNat_and, e1, e2, show (1023 : Nat) = 2 ^ 10 - 1 by rfl, Nat.and_two_pow_sub_one_eq_mod, IntKind.wrap_i64]
  omega
set_option maxHeartbeats 2000000 in
theorem split_any (v : Value) (rs : List Int) (w : World) (B : Nat) (hB : B ≤ w.heap.size) (h : Rd w B 1 v rs.length (intsV rs)) (hl : rs.length ≤ 1099511627776) (hr : ∀ r ∈ rs, Ut.isR r = true) :
    Calls Tryd.prog 55 #[v] w (IntsPost (Ut.unitsF rs) w) := by
  obtain ⟨i0, hi, hz0, hz1, hz2⟩ := info_parts infoInt
  obtain ⟨-, A, c, rfl, hc, hr0⟩ := h
  obtain ⟨n, hn⟩ : ∃ n, n = rs.length := ⟨_, rfl⟩
  rw [← hn] at hr0 hc hl ⊢
  have HN := Lib.hid hn
  have HR := Lib.hid hr0
  have HIS := Lib.hid hr
  have hmk := fun W : World => run_make (P := Tryd.prog) W 27 3 i0 _ Tryd.underlying27 hi hz0 .i64 .i64 0 n (by omega) (by omega) (by rw [hz2]; omega) (by omega)
  simp only [Int.toNat_zero, Int.toNat_natCast, hz1, Nat.mul_one] at hmk
  have HMA := Lib.hid (Ints.made (W := w) (B := w.heap.size) (n := n) hl (Nat.le_refl _))
  clear hn hr0 hr
  go_enter Tryd.func55, Tryd.ntmps55
  go_wp2
  go_loopw [3, 11] (fun v i wr => ∃ k : Nat, k ≤ n ∧ i = .int .i64 k ∧ RowKit.Hid (Ints w.heap.size (Ut.unitsF (rs.take k)) v wr) ∧ RowKit.Hid (Below w.heap.size w wr)) (fun _ i _ => n - (RowKit.intOf i).toNat)
  case atStart => exact ⟨0, by omega, rfl, HMA.out, (Below.refl _ _).alloc (Nat.le_refl _) _⟩
  case round =>
    obtain ⟨k, hk, rfl, HI, HB⟩ := hrel
    have hsz : w.heap.size ≤ wr.heap.size := HB.out.size
    clear hmk
    by_cases hlt : k < n
    · obtain ⟨g, o, rfl, hg, hr⟩ := HR.out (by omega)
      obtain ⟨r, hrk, d0⟩ := rd_int hr HN.out hlt
      have c0 := (HB.out.cell (p := ⟨g, o + k, none⟩) (by show g < _; omega)).trans d0
      have hkn : (k : Int) < n := by omega
      have his := HIS.out r (List.mem_of_getElem? hrk)
      have hrb : 0 ≤ r ∧ r ≤ 1114111 := by simp only [Ut.isR, decide_eq_true_eq] at his; omega
      obtain ⟨hr1, hr2⟩ := hrb
      have HT := Lib.hid (units_take hrk)
      have hcnt := units_count (rs.take k)
      rw [List.length_take] at hcnt
      have hcn : (Ut.unitsF (rs.take k)).length ≤ 2 * n := by omega
      have HO := Lib.hid HI.out.2
      clear hr d0 his hrk hcnt
      by_cases hw : r < 65536
      · have HW := Lib.hid (fun W => (width_any r W).mono fun e w' h => ((⟨h.1.trans (by unfold Ut.widthR; rw [if_pos hw]), h.2⟩ : e = .returned (.int .i64 1) ∧ W = w')))
        have HU := Lib.hid (show Ut.unitsR r = [r] by unfold Ut.unitsR; rw [if_pos hw])
        go_wp2_with (first | (go_at_call 72; with_reducible (refine (HW.out _).mono ?_); rintro e w1 ⟨rfl, rfl⟩) | (at_builtin; refine wpList_append_own _ rfl _ _ 27 rfl w.heap.size 3 i0 _ 1 8 Tryd.underlying27 hi hz0 hz1 hz2 rfl (by decide) _ _ _ rfl (HO.out.alloc _) ⟨wr.heap.size, 0, none⟩ 1 1 (intsV [r]) rfl rfl (cell_one_new _ _ _) (intsV_plain _) (by unfold maxLen; omega) (by omega) (by simp; omega) ?_; intro v' w3 hown' hgrow hnil; have HST := Lib.hid (ints_next rfl (by simp) HB.out HO.out hown' hgrow hnil); clear hown' hgrow hnil))
        go_roundw
        case rel => exact ⟨k + 1, by omega, by go_num, by rw [HT.out, HU.out]; exact HST.out.1, HST.out.2⟩
        case measure => simp [RowKit.intOf]; omega
      · have HW := Lib.hid (fun W => (width_any r W).mono fun e w' h => ((⟨h.1.trans (by unfold Ut.widthR; rw [if_neg hw]), h.2⟩ : e = .returned (.int .i64 2) ∧ W = w')))
        have HU := Lib.hid (show Ut.unitsR r = [55296 + (r - 65536) / 1024, 56320 + (r - 65536) % 1024] by unfold Ut.unitsR; rw [if_neg hw])
        have hr3 : 65536 ≤ r := by omega
        have hbit := and_1023 (r - 65536) (by omega) (by omega)
        go_wp2_with (first | (go_at_call 72; with_reducible (refine (HW.out _).mono ?_); rintro e w1 ⟨rfl, rfl⟩) | (at_builtin; refine wpList_append_own _ rfl _ _ 27 rfl w.heap.size 3 i0 _ 1 8 Tryd.underlying27 hi hz0 hz1 hz2 rfl (by decide) _ _ _ rfl (HO.out.alloc _) ⟨wr.heap.size, 0, none⟩ 2 2 (intsV [55296 + (r - 65536) / 1024, 56320 + (r - 65536) % 1024]) rfl rfl (cell_two_new _ _ _ _) (intsV_plain _) (by unfold maxLen; omega) (by omega) (by simp; omega) ?_; intro v' w3 hown' hgrow hnil; have HST := Lib.hid (ints_next rfl (by simp) HB.out HO.out hown' hgrow hnil); clear hown' hgrow hnil))
        go_roundw
        case rel => exact ⟨k + 1, by omega, by go_num, by rw [HT.out, HU.out]; exact HST.out.1, HST.out.2⟩
        case measure => simp [RowKit.intOf]; omega
    · go_wp2
      go_ret
      have e : k = n := by omega
      subst e
      have h := HI.out
      rw [HN.out, List.take_length] at h
      exact ⟨_, rfl, h, HB.out⟩
/-- what Units answers. -/
def UnitsPost (L : List UInt8) (w : World) (e : Ending) (w' : World) : Prop :=
  (if validD L = true then ∃ v, e = .returned (.tuple #[v, .int .i64 0]) ∧ Ints w.heap.size (Ut.unitsF (Ut.runesF L)) v w' else e = .returned (.tuple #[.slice none 0 0, .int .i64 40])) ∧ Below w.heap.size w w'
theorem Ints.base {B B' : Nat} {l : List Int} {v : Value} {w : World} (h : Ints B l v w) (hb : B' ≤ B) : Ints B' l v w := by
  refine ⟨h.1, h.2.1, ?_⟩
  rcases h.2.2 with hn | ⟨g, cap, cur, rfl, hg, rest⟩
  · exact .inl hn
  · exact .inr ⟨g, cap, cur, rfl, by omega, rest⟩
theorem runes_count : ∀ (n : Nat) (L : List UInt8), L.length ≤ n → (Ut.runesF L).length ≤ L.length
  | 0, L, h => by
    obtain rfl := List.eq_nil_of_length_eq_zero (Nat.le_zero.1 h)
    simp [Ut.runes_nil]
  | n + 1, L, h => by
    by_cases hne : L = []
    · subst hne; simp [Ut.runes_nil]
    · have hd := Ut.drop_lt hne
      have := runes_count n _ (show (L.drop (decodeL L).2).length ≤ n by omega)
      rw [Ut.runes_step L hne, List.length_cons]
      omega
theorem units_any (s : ByteArray) (w : World) (hs : s.size ≤ 1099511627776) (hT : Tabs w) :
    Calls Tryd.prog 27 #[.string s] w (UnitsPost s.data.toList w) := by
  cases hv : validD s.data.toList
  · have HR := Lib.hid (runes_any vs s w hs hT)
    go_enter Tryd.func27, Tryd.ntmps27
    go_wp2_with fail
    refine HR.out.mono ?_
    rintro e w1 ⟨h, hb⟩
    rw [if_neg (by rw [hv]; simp)] at h
    subst h
    go_wp2
    go_ret2
    exact ⟨by rw [if_neg (by rw [hv]; simp)]; rfl, hb⟩
  · have HR := Lib.hid (runes_any vs s w hs hT)
    have hva := (Ut.valid_all _ hv).2.1
    have hct := runes_count _ s.data.toList (Nat.le_refl _)
    have HV := Lib.hid hv
    clear hv
    go_enter Tryd.func27, Tryd.ntmps27
    go_wp2_with fail
    refine HR.out.mono ?_
    rintro e w1 ⟨h, hb⟩
    rw [if_pos HV.out] at h
    obtain ⟨v, rfl, hi⟩ := h
    have HB := Lib.hid hb
    have HI := Lib.hid hi
    clear hb hi
    go_wp2_with fail
    refine (split_any v _ w1 _ (Nat.le_refl _) HI.out.rd (by simp at hct; omega) hva).mono ?_
    rintro e w2 ⟨v2, rfl, hi2, hb2⟩
    go_wp2
    go_ret2
    exact ⟨by rw [if_pos HV.out]; exact ⟨_, rfl, hi2.base HB.out.size⟩, HB.out.trans (hb2.mono HB.out.size)⟩
end Go.Proofs.YtdeihlbnlogjcaaDoor
