/- The walk of UtfJoined. -/
import Derived.Test.YtdeihlbnlogjcaaDoorUtfK
namespace Go.Proofs.YtdeihlbnlogjcaaDoor
open Go.RowKit Go.Lib Go.Shelf
set_option maxRecDepth 100000
set_option linter.unusedVariables false

theorem own_below {w w' : World} {B e size n : Nat} {v : Value} {xs : List Value} (h : w.ownsRow B e size v n xs) (hb : Below w.heap.size w w') : w'.ownsRow B e size v n xs := by
  refine ⟨h.1, ?_⟩
  rcases h.2 with hn | ⟨g, cap, cur, rfl, hg, hgg, rest⟩
  · exact .inl hn
  · exact .inr ⟨g, cap, cur, rfl, hg, by rw [hb.block g (Array.getElem?_eq_some_iff.1 hgg).1]; exact hgg, rest⟩

/-! ### remarks -/
theorem Ints.below {B : Nat} {l : List Int} {v : Value} {w w' : World} (h : Ints B l v w) (hb : Below w.heap.size w w') : Ints B l v w' := ⟨h.1, own_below h.2 hb⟩
theorem Ints.cellsAt {B : Nat} {l : List Int} {v : Value} {w : World} (h : Ints B l v w) : ∃ g c, v = .slice (some ⟨g, 0, none⟩) l.length c ∧ l.length ≤ c ∧ ∀ j u, (intsV l)[j]? = some u → w.cell? ((⟨g, 0, none⟩ : Addr).add j) = some u := by
  have hx := h.2
  rcases h.2.2 with ⟨rfl, _⟩ | ⟨g, cap, cur, rfl, hb, hk, hn, _⟩
  · exact absurd rfl h.1
  · exact ⟨g, cap, rfl, hn, hx.cells rfl⟩
theorem joined_of (A B : List UInt8) (ha : validD A = true) (hb : validD B = true) : validD (A ++ B) = true ∧ Ut.unitsF (Ut.runesF (A ++ B)) = Ut.unitsF (Ut.runesF A) ++ Ut.unitsF (Ut.runesF B) := by
  obtain ⟨h1, h2, -⟩ := Ut.valid_all A ha
  have h3 := Ut.valid_encs (Ut.runesF A) B h2
  rw [h1] at h3
  exact ⟨h3.1.trans hb, by rw [h3.2.1, Ut.units_app]⟩
theorem units_le (L : List UInt8) (h : validD L = true) : (Ut.unitsF (Ut.runesF L)).length ≤ L.length := (counts_of L h).2.1
/-- the two lists that the last comparison is handed. -/
theorem same_after {a b : Nat} {W w3 : World} {v v' vc : Value} {l m : List Int} (hab : a ≤ b) (hc : Ints b (l ++ m) vc W) (hv : ∀ g, v.ownBlock = some g → g < b) (hown : w3.ownsRow a 3 1 v' (l.length + m.length) (intsV l ++ intsV m)) (hg : W.grownBy w3 v.ownBlock) (hl : (l ++ m).length ≤ 1099511627776) :
    Calls Tryd.prog 26 #[vc, v'] w3 fun e w' => e = .returned (.bool true) ∧ ∃ q, w' = w3.drewN q := by
  refine sameInts_yes vc v' (l ++ m) w3 w3.heap.size w3.heap.size (Rd.of_own (hc.2.kept hg ?_)) ?_ (by omega)
  · cases hb : vc.ownBlock with
    | none => exact .inl rfl
    | some g =>
      refine .inr fun e => ?_
      have h1 := (hc.2.lt g hb).1
      have h2 := hv g e.symm
      omega
  · rw [List.length_append, intsV_app]
    exact Rd.of_own hown
section
variable {P : Program} {w : World}
/-- an append whose guard says yes. -/
theorem append_own_g {ops : Array Oper} {rest : List Oper} {o : Oper} {a : Act} {Q : Exit → Act → World → Prop} (hw : Region.wanted o (yielded ops a.tmps) = true) (s x : Operand) (t : TypeId)
    (ho : o.op = .call { callee := .builtin .append, args := #[s, x], argTypes := #[t, t] })
    (base : Nat) (e : TypeId) (i : TypeInfo) (z : Value) (size bytes : Nat) (ht : P.underlying t = some (.slice e)) (hi : P.info? e = some i) (hz : i.zero = some z)
    (hsize : i.size = size) (hby : i.bytes = bytes) (hzs : z.cells.size = size) (hsz : 0 < size)
    (v : Value) (n : Nat) (xs : List Value) (hs : a.eval s = v) (hown : w.ownsRow base e size v n xs)
    (ad : Addr) (m c : Nat) (news : List Value) (hx : a.eval x = .slice (some ad) m c) (hl : news.length = m * size) (hnews : ∀ j u, news[j]? = some u → w.cell? (ad.add j) = some u) (h1 : ∀ u ∈ news, u.oneCell' = true)
    (h63 : n + m ≤ maxLen) (hbytes : (n + m) * bytes ≤ 140737488355328) (hbase : base ≤ w.heap.size)
    (h : ∀ v' w', w'.ownsRow base e size v' (n + m) (xs ++ news) → w.grownBy w' v.ownBlock → (v' = .slice none 0 0 ↔ v = .slice none 0 0 ∧ m = 0) → wpList P ops Q rest (a.put o.dst v') w') : wpList P ops Q (o :: rest) a w :=
  wpList_step fun _ hK => by
    rw [if_pos hw]
    exact wp_append_own w s x t ho base e i z size bytes ht hi hz hsize hby hzs hsz v n xs hs hown ad m c news hx hl hnews h1 h63 hbytes hbase fun v' w' h2 h3 h4 => hK _ _ (h v' w' h2 h3 h4)
end
set_option maxHeartbeats 2000000 in
theorem utfJoined_walk (s t : ByteArray) (w : World) (hs : s.size ≤ 140737488351232) (ht : t.size ≤ 140737488351232) (hT : Tabs w) : Calls Tryd.prog 8 #[.string s, .string t] w (TruePost w) := by
  obtain ⟨i0, hi, hz0, hz1, hz2⟩ := info_parts infoInt
  go_enter Tryd.func8, Tryd.ntmps8
  go_wp2_with fail
  refine (alive_any w hT).mono ?_
  rintro e w1 ⟨rfl, hb1⟩
  by_cases hlen : s.size + t.size > 5000
  · have hl : (s.size : Int) + t.size > 5000 := by omega
    have HB := Lib.hid hb1
    clear hb1 hlen
    go_wp2
    go_ret
    exact ⟨rfl, HB.out⟩
  · have hl : ¬ (s.size : Int) + t.size > 5000 := by omega
    have HT1 := Lib.hid (Utf8Tabs_below hT hb1)
    have HB1 := Lib.hid hb1
    clear hb1
    go_wp2_with fail
    refine (units_any s w1 (by omega) HT1.out).mono ?_
    rintro e w2 ⟨h, hb2⟩
    have HB2 := Lib.hid (HB1.out.trans (hb2.mono HB1.out.size))
    have hs12 := hb2.size
    have HT2 := Lib.hid (Utf8Tabs_below HT1.out hb2)
    clear hb2
    cases hv : validD s.data.toList
    · rw [hv, if_neg (by simp)] at h
      subst h
      go_wp2_with fail
      refine (units_any t w2 (by omega) HT2.out).mono ?_
      rintro e w3 ⟨h, hb3⟩
      have HB3 := Lib.hid (HB2.out.trans (hb3.mono HB2.out.size))
      clear hb3
      obtain ⟨v, k, rfl⟩ : ∃ v k, e = .returned (.tuple #[v, .int .i64 k]) := by
        split at h
        · obtain ⟨v, rfl, -⟩ := h
          exact ⟨_, _, rfl⟩
        · exact ⟨_, _, h⟩
      clear h hv
      go_wp2
      go_ret
      exact ⟨rfl, HB3.out⟩
    · rw [hv, if_pos rfl] at h
      obtain ⟨va, rfl, hia⟩ := h
      go_wp2_with fail
      refine (units_any t w2 (by omega) HT2.out).mono ?_
      rintro e w3 ⟨h, hb3⟩
      have HB3 := Lib.hid (HB2.out.trans (hb3.mono HB2.out.size))
      have HT3 := Lib.hid (Utf8Tabs_below HT2.out hb3)
      have HIA := Lib.hid hia
      clear hia
      cases hv2 : validD t.data.toList
      · rw [hv2, if_neg (by simp)] at h
        subst h
        clear hb3
        go_wp2
        go_ret
        exact ⟨rfl, HB3.out⟩
      · rw [hv2, if_pos rfl] at h
        obtain ⟨vb, rfl, hib⟩ := h
        have HIB := Lib.hid hib
        have HB23 := Lib.hid hb3
        clear hb3 hib
        obtain ⟨hj1, hj2⟩ := joined_of _ _ hv hv2
        have hst : (s ++ t).data.toList = s.data.toList ++ t.data.toList := by simp
        have hsz : (s ++ t).size = s.size + t.size := by simp
        have hla := units_le _ hv
        have hlb := units_le _ hv2
        rw [show s.data.toList.length = s.size by simp] at hla
        rw [show t.data.toList.length = t.size by simp] at hlb
        have HU := Lib.hid (units_any (s ++ t) w3 (by omega) HT3.out)
        go_wp2_with fail
        refine HU.out.mono ?_
        rintro e w4 ⟨h, hb4⟩
        rw [hst, hj1, if_pos rfl, hj2] at h
        obtain ⟨vc, rfl, hic⟩ := h
        have HIC := Lib.hid hic
        have HB34 := Lib.hid hb4
        have HB4 := Lib.hid (HB3.out.trans (hb4.mono HB3.out.size))
        clear hb4 hic hv hv2 hj1 hj2 hst
        obtain ⟨la, hla'⟩ : ∃ l, l = Ut.unitsF (Ut.runesF s.data.toList) := ⟨_, rfl⟩
        obtain ⟨lb, hlb'⟩ : ∃ l, l = Ut.unitsF (Ut.runesF t.data.toList) := ⟨_, rfl⟩
        rw [← hla'] at hla HIA HIC
        rw [← hlb'] at hlb HIB HIC
        clear hla' hlb'
        obtain ⟨gb, cb, rfl, hcb, hcells⟩ := (HIB.out.below HB34.out).cellsAt
        have HCE := Lib.hid hcells
        have HOA := Lib.hid ((HIA.out.below HB23.out).below (HB34.out.mono (Nat.le_refl _))).2
        have HLT := Lib.hid (fun g (e : va.ownBlock = some g) => Nat.lt_of_lt_of_le (HIA.out.2.lt g e).2 HB23.out.size)
        have hs4 : w.heap.size ≤ w4.heap.size := HB4.out.size
        have hw13 : w1.heap.size ≤ w3.heap.size := by have := HB23.out.size; omega
        have hw1 : w1.heap.size ≤ w4.heap.size := by have := HB34.out.size; omega
        have hww := HB1.out.size
        have hlen5 : (la ++ lb).length ≤ 1099511627776 := by rw [List.length_append]; omega
        clear hcells
        go_wp2_with (first | (at_builtin; refine append_own_g (by first | rfl | simp [Region.wanted, yielded]) _ _ 27 rfl w1.heap.size 3 i0 _ 1 8 Tryd.underlying27 hi hz0 hz1 hz2 rfl (by decide) va _ (intsV la) rfl HOA.out ⟨gb, 0, none⟩ lb.length cb (intsV lb) rfl (by rw [intsV_len, Nat.mul_one]) HCE.out (intsV_plain _) (by unfold maxLen; omega) (by omega) hw1 ?_; intro v5 w5 hown' hgrow hnil; have HST := Lib.hid (same_after hw13 HIC.out HLT.out hown' hgrow hlen5); have HB5 := Lib.hid (HB4.out.grown hgrow hs4 (fun g e => Nat.le_trans hww (HIA.out.2.lt g e).1)); clear hown' hgrow hnil) | (go_at_call 26; with_reducible (refine HST.out.mono ?_); rintro e w6 ⟨rfl, q, rfl⟩))
        go_ret
        exact ⟨rfl, below_drewN HB5.out q⟩
end Go.Proofs.YtdeihlbnlogjcaaDoor
