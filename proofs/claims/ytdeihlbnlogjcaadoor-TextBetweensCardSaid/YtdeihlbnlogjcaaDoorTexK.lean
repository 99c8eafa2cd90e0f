/- Edits that came in; CopyEdits; great. -/
import Derived.Test.YtdeihlbnlogjcaaDoorTexW
import Derived.Test.YtdeihlbnlogjcaaDoorUtfP
import Derived.Lib.SmallJoins
namespace Go.Proofs.YtdeihlbnlogjcaaDoor
open Go.RowKit Go.Lib Go.Shelf Go.ChangeShapes Go.WideShapes Go.Deep
set_option maxRecDepth 100000
set_option linter.unusedVariables false
set_option linter.unusedSectionVars false

def ArgE (w : World) (v : Value) (xs : List ET) : Prop := (Rd w w.heap.size 5 v xs.length (etsCells xs) ∧ (v = .slice none 0 0 ∨ ∃ a c, v = .slice (some a) xs.length c)) ∧ (∀ x ∈ xs, EWf x ∧ x.t.size ≤ 140737488351232) ∧ xs.length ≤ 2932031007403
theorem list_ofE {α : Type} {p : Nat → α → Prop} : ∀ (n : Nat), (∀ i, i < n → ∃ x, p i x) → ∃ l : List α, l.length = n ∧ ∀ (i : Nat) (x : α), l[i]? = some x → p i x
  | 0, _ => ⟨[], rfl, fun i x h => by simp at h⟩
  | n + 1, h => by
    obtain ⟨l, hl, hp⟩ := list_ofE n fun i hi => h i (by omega)
    obtain ⟨x, hx⟩ := h n (by omega)
    refine ⟨l ++ [x], by simp [hl], fun i y hy => ?_⟩
    rcases Nat.lt_or_ge i n with hi | hi
    · rw [List.getElem?_append_left (by omega)] at hy
      exact hp i y hy
    · rw [List.getElem?_append_right (by omega)] at hy
      have hj : i - l.length = 0 := by
        rcases Nat.eq_zero_or_pos (i - l.length) with h0 | h0
        · exact h0
        · rw [List.getElem?_eq_none (by simp; omega)] at hy; cases hy
      rw [hj] at hy
      obtain rfl : x = y := by simpa using hy
      obtain rfl : i = n := by omega
      exact hx
theorem editFields : ∃ f0 f1 f2 f3 f4 : Field, Tryd.prog.underlying 60 = some (.struct #[f0, f1, f2, f3, f4]) ∧ (f0.type = 3 ∧ f0.offset = 0) ∧ (f1.type = 3 ∧ f1.offset = 1) ∧ (f2.type = 3 ∧ f2.offset = 2) ∧ (f3.type = 3 ∧ f3.offset = 3) ∧ (f4.type = 9 ∧ f4.offset = 4) :=
  ⟨_, _, _, _, _, Tryd.underlying60, ⟨rfl, rfl⟩, ⟨rfl, rfl⟩, ⟨rfl, rfl⟩, ⟨rfl, rfl⟩, ⟨rfl, rfl⟩⟩
section
variable {H : Type} {P : Program} {enc : TypeId × Value → H} {W w : World} {base : Nat} {spare : Nat → Bool} {held : Bool}
theorem trod_struct5 {t : TypeId} {f0 f1 f2 f3 f4 : Field} {fuel : Nat} {cs : List Value} {x : DataW H × List MemPlace} (ht : P.underlying t = some (.struct #[f0, f1, f2, f3, f4])) (h : DataW.trod enc P w base spare held fuel t cs = some x) :
    ∃ (y0 y1 y2 y3 y4 : DataW H × List MemPlace) (n : Nat), x.1 = .agg [y0.1, y1.1, y2.1, y3.1, y4.1] ∧ DataW.trod enc P w base spare held n f0.type ((cs.drop f0.offset).take (P.cellsOf f0.type)) = some y0 ∧
      DataW.trod enc P w base spare held n f1.type ((cs.drop f1.offset).take (P.cellsOf f1.type)) = some y1 ∧ DataW.trod enc P w base spare held n f2.type ((cs.drop f2.offset).take (P.cellsOf f2.type)) = some y2 ∧
      DataW.trod enc P w base spare held n f3.type ((cs.drop f3.offset).take (P.cellsOf f3.type)) = some y3 ∧ DataW.trod enc P w base spare held n f4.type ((cs.drop f4.offset).take (P.cellsOf f4.type)) = some y4 := by
  obtain ⟨xs, n, _, rfl, hl, hlen, hf⟩ := DataW.trod_struct ht h
  match xs, hlen with
  | [y0, y1, y2, y3, y4], _ => exact ⟨y0, y1, y2, y3, y4, n, by simp, by simpa using hf 0 f0 rfl, by simpa using hf 1 f1 rfl, by simpa using hf 2 f2 rfl, by simpa using hf 3 f3 rfl, by simpa using hf 4 f4 rfl⟩
theorem list5 {α : Type} {l : List α} (h : l.length = 5) : ∃ a b c d e, l = [a, b, c, d, e] := by
  match l, h with
  | [a, b, c, d, e], _ => exact ⟨a, b, c, d, e, rfl⟩
/-- one edit's cells. -/
theorem open_edit {fuel : Nat} {cs : List Value} {y : DataW H × List MemPlace} (hl : cs.length = 5) (h : DataW.trod enc Tryd.prog W base spare held fuel 60 cs = some y) : ∃ x : ET, cs = etCells x ∧ EWf x ∧ x.t.size ∈ y.1.weights Tryd.prog 60 := by
  have hc1 : Tryd.prog.cellsOf 3 = 1 := by kernel_rfl
  have hc2 : Tryd.prog.cellsOf 9 = 1 := by kernel_rfl
  obtain ⟨f0, f1, f2, f3, f4, hst, ⟨t0, o0⟩, ⟨t1, o1⟩, ⟨t2, o2⟩, ⟨t3, o3⟩, t4, o4⟩ := editFields
  obtain ⟨c0, c1, c2, c3, c4, rfl⟩ := list5 hl
  obtain ⟨y0, y1, y2, y3, y4, n', hy, h0, h1, h2, h3, h4⟩ := trod_struct5 hst h
  simp only [t0, o0, t1, o1, t2, o2, t3, o3, t4, o4, hc1, hc2, List.drop_zero, List.take_succ_cons, List.take_zero, List.drop_succ_cons] at h0 h1 h2 h3 h4
  obtain ⟨z0, e0, _, w0⟩ := DataW.trod_int Tryd.underlying3 h0
  obtain ⟨z1, e1, _, w1⟩ := DataW.trod_int Tryd.underlying3 h1
  obtain ⟨z2, e2, _, w2⟩ := DataW.trod_int Tryd.underlying3 h2
  obtain ⟨z3, e3, _, w3⟩ := DataW.trod_int Tryd.underlying3 h3
  obtain ⟨z4, e4, rfl, _⟩ := DataW.trod_string Tryd.underlying9 h4
  simp only [List.cons.injEq, and_true] at e0 e1 e2 e3 e4
  subst e0 e1 e2 e3 e4
  refine ⟨⟨z0, z1, z2, z3, z4⟩, rfl, ⟨w0, w1, w2, w3⟩, ?_⟩
  rw [hy]
  simp [DataW.weights, hst, DataW.weightsEach]
theorem weights_at {P : Program} {e : TypeId} : ∀ {l : List (DataW H)} {d : DataW H} {n : Nat}, d ∈ l → n ∈ d.weights P e → n ∈ DataW.weightsAll P e l
  | x :: l, d, n, hd, hn => by
    simp only [DataW.weightsAll, List.mem_append]
    rcases List.mem_cons.1 hd with rfl | hd
    · exact .inl hn
    · exact .inr (weights_at hd hn)
theorem open_edits {r : Reach} {b0 : Nat} {v : Value} {d : DataW H} {p : List MemPlace} (hv : Value.okWide Tryd.prog W r b0 54 v) (h : DataW.Trod enc Tryd.prog W base spare held 54 v d p) (hw : ∀ n ∈ d.weights Tryd.prog 54, n ≤ reachBytes) : ∃ xs, ArgE W v xs := by
  obtain ⟨a, len, cap, rfl⟩ := okWide_slice Tryd.underlying54 hv
  obtain ⟨fuel, hf⟩ := h
  have hc5 : Tryd.prog.cellsOf 60 = 5 := by kernel_rfl
  rcases open_slice Tryd.underlying54 hf with ⟨hcs, _⟩ | ⟨ad, len', cap', m, n, D, Pl, hcs, hb, hl, hm, hmm, hx, hi⟩
  · simp [Value.cells] at hcs
    obtain ⟨rfl, rfl, rfl⟩ := hcs
    exact ⟨[], ⟨Rd.nil _ _ _ _ _, .inl rfl⟩, fun _ h => (by simp at h), by simp⟩
  · simp [Value.cells] at hcs
    obtain ⟨rfl, rfl, rfl⟩ := hcs
    obtain ⟨xs, htl, hts⟩ := list_ofE (p := fun i (x : ET) => (∀ j, j < 5 → W.cell? (ad.add (i * 5 + j)) = (etCells x)[j]?) ∧ EWf x ∧ x.t.size ≤ 140737488351232) len fun i hil => by
      obtain ⟨cs', hcs', htr⟩ := hi i (by rw [hmm]; split <;> omega)
      rw [hc5] at hcs'
      obtain ⟨_, hcl, hat⟩ := World.cells?_some hcs'
      obtain ⟨x, rfl, hwf, hz⟩ := open_edit hcl htr
      have hz2 := hw x.t.size (by
        rw [(Prod.mk.inj hx).1]
        simp only [DataW.weights, Tryd.underlying54, List.mem_cons, List.mem_append]
        exact .inr (.inl (weights_at (List.mem_map.2 ⟨i, List.mem_range.2 hil, rfl⟩) hz)))
      refine ⟨x, fun j hj => ?_, hwf, by unfold reachBytes at hz2; exact hz2⟩
      have := hat j (by rw [hcl] at *; exact hj)
      rw [Go.Deep.add_add] at this
      exact this
    have hlw := hw ((((List.range len).map D).length + ((List.range (m - len)).map fun j => D (len + j)).length) * Tryd.prog.bytesOf 60) (by
      rw [(Prod.mk.inj hx).1]
      simp only [DataW.weights, Tryd.underlying54, List.mem_cons, List.mem_append]
      exact .inl trivial)
    rw [show Tryd.prog.bytesOf 60 = 48 by kernel_rfl] at hlw
    unfold reachBytes at hlw
    simp only [List.length_map, List.length_range] at hlw
    refine ⟨xs, ⟨⟨ets_len xs, some ad, cap, by rw [htl], by omega, fun hpos => ?_⟩, .inr ⟨ad, cap, by rw [htl]⟩⟩, fun t ht => by
      obtain ⟨i, hi, rfl⟩ := List.getElem_of_mem ht
      exact (hts i _ (List.getElem?_eq_getElem hi)).2, by omega⟩
    obtain ⟨b, o, s⟩ := ad
    have h0 := (hts 0 xs[0] (List.getElem?_eq_getElem hpos)).1 0 (by omega)
    rw [show (etCells xs[0])[0]? = some (.int .i64 xs[0].a) from rfl] at h0
    have hs : s = none := by
      cases s with
      | none => rfl
      | some s =>
        exfalso
        unfold World.cell? at h0
        split at h0
        · simp [Addr.add] at h0
        · cases h0
    subst hs
    have hblt : b < W.heap.size := by
      rcases Nat.lt_or_ge b W.heap.size with h | h
      · exact h
      · exfalso
        unfold World.cell? at h0
        rw [show (Addr.add ⟨b, o, none⟩ (0 * 5 + 0)).block = b from rfl, Array.getElem?_eq_none h] at h0
        cases h0
    refine ⟨b, o, rfl, hblt, fun j hj => ?_⟩
    have hk : j / 5 < xs.length := by omega
    have hr := (hts (j / 5) xs[j / 5] (List.getElem?_eq_getElem hk)).1 (j % 5) (Nat.mod_lt _ (by omega))
    have hq := ets_get xs (j / 5) hk (j % 5) (Nat.mod_lt _ (by omega))
    have hadd : ∀ i, (Addr.add ⟨b, o, none⟩ i) = ⟨b, o + i, none⟩ := fun i => by simp [Addr.add]
    rw [hadd, ← hq, show j / 5 * 5 + j % 5 = j by omega] at hr
    exact hr
end
theorem Tryd.infoEd : (Tryd.prog.info? 60).map (fun i => (i.zero, i.size, i.bytes)) = some (some (.agg #[.int .i64 0, .int .i64 0, .int .i64 0, .int .i64 0, .string ⟨#[]⟩]), 5, 48) := by kernel_rfl
theorem ets_plain (xs : List ET) : ∀ u ∈ etsCells xs, u.oneCell' = true := by
  intro u hu
  simp only [etsCells, List.mem_flatMap, etCells, List.mem_cons, List.mem_nil_iff, or_false] at hu
  obtain ⟨t, _, rfl | rfl | rfl | rfl | rfl⟩ := hu <;> rfl
theorem ArgE.at {w : World} {ad : Addr} {n c : Nat} {xs : List ET} (h : Rd w w.heap.size 5 (.slice (some ad) n c) n (etsCells xs)) (hn : n = xs.length) (o : Obj) : ∀ (j : Nat) (u : Value), (etsCells xs)[j]? = some u → (w.alloc o).cell? (ad.add j) = some u := by
  intro j u hu
  have hj : j < (etsCells xs).length := (List.getElem?_eq_some_iff.1 hu).1
  rw [ets_len] at hj
  obtain ⟨_, A, c', e, _, hr⟩ := h
  obtain ⟨g, o', rfl, hg, hr⟩ := hr (by omega)
  simp only [Value.slice.injEq, Option.some.injEq] at e
  obtain ⟨rfl, _, _⟩ := e
  rw [show Addr.add ⟨g, o', none⟩ j = ⟨g, o' + j, none⟩ by simp [Addr.add], ((Below.refl w.heap.size w).alloc (Nat.le_refl _) o).cell (p := ⟨g, o' + j, none⟩) hg, hr j (by omega)]
  exact hu
theorem copyEdits_any (v : Value) (xs : List ET) (w : World) (h : ArgE w v xs) (hl : xs.length ≤ 1099511627776) :
    Calls Tryd.prog 47 #[v] w fun e w' => ∃ v', e = .returned v' ∧ RowKit.Hid (w'.ownsRow w.heap.size 60 5 v' xs.length (etsCells xs)) ∧ Below w.heap.size w w' := by
  obtain ⟨⟨h1, h2⟩, -⟩ := h
  obtain ⟨i0, hi, hz0, hz1, hz2⟩ := info_parts Tryd.infoEd
  have HO := Lib.hid (World.ownsRow_lit (e := 60) (size := 5) w #[] 0 (Nat.le_refl _) (by unfold maxLen; omega) rfl)
  obtain ⟨n, hn⟩ : ∃ n, n = xs.length := ⟨_, rfl⟩
  rw [← hn] at h1 h2 hl ⊢
  have HR := Lib.hid h1
  have HN := Lib.hid hn
  clear h1 hn
  rcases h2 with rfl | ⟨ad, c, rfl⟩
  · have hn0 : n = 0 := by
      obtain ⟨_, A, c', e, _⟩ := HR.out
      simp only [Value.slice.injEq] at e
      omega
    subst hn0
    go_enter Tryd.func47, Tryd.ntmps47
    go_wp2
    go_ret
    obtain rfl : xs = [] := List.eq_nil_of_length_eq_zero HN.out.symm
    exact ⟨_, rfl, HO.out, (Below.refl _ _).alloc (Nat.le_refl _) _⟩
  · have HR1 := Lib.hid (ArgE.at HR.out HN.out (.cells #[] 60))
    go_enter Tryd.func47, Tryd.ntmps47
    go_wp2_with (at_builtin; refine wpList_append_own _ rfl _ _ 54 rfl w.heap.size 60 i0 _ 5 48 Tryd.underlying54 hi hz0 hz1 hz2 rfl (by decide) _ _ _ rfl HO.out ad n c (etsCells xs) rfl (by rw [ets_len, HN.out]) HR1.out (ets_plain _) (by unfold maxLen; omega) (by omega) (by simp) ?_; intro v' w1 hown hgrow hnil)
    go_ret
    refine ⟨_, rfl, ?_, ((Below.refl _ _).alloc (Nat.le_refl _) _).grown hgrow (by simp) (fun g e => by cases e; exact Nat.le_refl _)⟩
    rw [Nat.zero_add, List.nil_append] at hown
    exact hown
def sumE : List ET → Int
  | [] => 0
  | x :: xs => (1 + (x.t.size : Int)) + sumE xs
def grB (n : Nat) (xs : List ET) : Bool := decide ((n : Int) + sumE xs > 100000) || decide ((xs.length : Int) > 50)
theorem sumE_take (xs : List ET) (k : Nat) (x : ET) (h : xs[k]? = some x) : sumE (xs.take (k + 1)) = sumE (xs.take k) + (1 + x.t.size) := by
  induction xs generalizing k with
  | nil => simp at h
  | cons y ys ih =>
    cases k with
    | zero =>
      simp at h
      subst h
      simp [sumE]
    | succ k =>
      rw [List.take_succ_cons, List.take_succ_cons, sumE, sumE, ih k (by simpa using h)]
      omega
theorem grB_no {n : Nat} {xs : List ET} (h : grB n xs = false) : n ≤ 100000 ∧ xs.length ≤ 50 ∧ ∀ x ∈ xs, x.t.size ≤ 100000 := by
  unfold grB at h
  simp only [Bool.or_eq_false_iff, decide_eq_false_iff_not] at h
  obtain ⟨h1, h2⟩ := h
  have key : ∀ xs : List ET, 0 ≤ sumE xs ∧ ∀ x ∈ xs, (x.t.size : Int) ≤ sumE xs := by
    intro xs
    induction xs with
    | nil => exact ⟨by simp [sumE], fun _ h => by simp at h⟩
    | cons y ys ih =>
      refine ⟨by unfold sumE; omega, fun x hx => ?_⟩
      unfold sumE
      rcases List.mem_cons.1 hx with rfl | hx
      · omega
      · have := ih.2 x hx
        omega
  have k1 := (key xs).1
  exact ⟨by omega, by omega, fun x hx => by have := (key xs).2 x hx; omega⟩
set_option maxHeartbeats 1000000 in
theorem great_any (s : ByteArray) (v : Value) (xs : List ET) (w : World) (hs : s.size ≤ 140737488351232) (h : ArgE w v xs) :
    Calls Tryd.prog 46 #[.string s, v] w fun e w' => e = .returned (.bool (grB s.size xs)) ∧ w = w' := by
  obtain ⟨⟨⟨-, A, c, rfl, hc, hr⟩, -⟩, hx, hln⟩ := h
  obtain ⟨n, hn⟩ : ∃ n, n = xs.length := ⟨_, rfl⟩
  rw [← hn] at hr hc hln ⊢
  have HN := Lib.hid hn
  have HR := Lib.hid hr
  have HX := Lib.hid hx
  clear hn hr hx
  go_enter Tryd.func46, Tryd.ntmps46
  go_wp2
  by_cases hn50 : n > 50
  · have hni : (n : Int) > 50 := by omega
    have HG := Lib.hid (show grB s.size xs = true by
      unfold grB
      rw [← HN.out, decide_eq_true hni, Bool.or_true])
    go_loopw [5, 6] (fun a i wr => ∃ (k : Nat) (z : Int), k ≤ n ∧ a = .int .i64 z ∧ i = .int .i64 k ∧ wr = w) (fun _ i _ => n - (RowKit.intOf i).toNat)
    case atStart => exact ⟨0, _, by omega, rfl, rfl, rfl⟩
    case round =>
      obtain ⟨k, z, hk, rfl, rfl, rfl⟩ := hrel
      by_cases hkn : k < n
      · have hki : (k : Int) < n := by omega
        obtain ⟨g, o, rfl, hg, hr⟩ := HR.out (by omega)
        obtain ⟨x, hxk, d0, d1, d2, d3, d4⟩ := rd_et hr HN.out hkn
        clear hr d0 d1 d2 d3 hxk
        go_wp2
        go_roundw
        case rel => exact ⟨k + 1, _, by omega, rfl, by go_num, trivial⟩
        case measure => simp [RowKit.intOf]; omega
      · have hki : ¬ (k : Int) < n := by omega
        by_cases hz : z > 100000
        · go_wp2
          go_ret
          exact ⟨by rw [HG.out]; rfl, rfl⟩
        · go_wp2
          go_ret
          exact ⟨by rw [HG.out]; rfl, rfl⟩
  · have hni : ¬ (n : Int) > 50 := by omega
    go_loopw [5, 6] (fun a i wr => ∃ (k : Nat) (z : Int), k ≤ n ∧ a = .int .i64 z ∧ i = .int .i64 k ∧ 0 ≤ z ∧ z ≤ 140737488355328 * (k + 1) ∧ RowKit.Hid (z = s.size + sumE (xs.take k)) ∧ wr = w) (fun _ i _ => n - (RowKit.intOf i).toNat)
    case atStart => exact ⟨0, s.size, by omega, rfl, rfl, by omega, by omega, Lib.hid (by simp [sumE]), rfl⟩
    case round =>
      obtain ⟨k, z, hk, rfl, rfl, hz0, hz1, HZ, rfl⟩ := hrel
      by_cases hkn : k < n
      · have hki : (k : Int) < n := by omega
        obtain ⟨g, o, rfl, hg, hr⟩ := HR.out (by omega)
        obtain ⟨x, hxk, d0, d1, d2, d3, d4⟩ := rd_et hr HN.out hkn
        have hxs := (HX.out x (List.mem_of_getElem? hxk)).2
        have HST := Lib.hid (sumE_take xs k x hxk)
        clear hr d0 d1 d2 d3 hxk
        go_wp2
        go_roundw
        case rel => exact ⟨k + 1, z + (1 + x.t.size), by omega, by go_num, by go_num, by omega, by omega, Lib.hid (by rw [HST.out, HZ.out]; omega), trivial⟩
        case measure => simp [RowKit.intOf]; omega
      · have hki : ¬ (k : Int) < n := by omega
        have HG := Lib.hid (show grB s.size xs = decide (z > 100000) by
          unfold grB
          rw [← HN.out, decide_eq_false hni, Bool.or_false, HZ.out, List.take_of_length_le (by have := HN.out; omega)])
        by_cases hz : z > 100000
        · have HG2 := Lib.hid (HG.out.trans (decide_eq_true hz))
          go_wp2
          go_ret
          exact ⟨by rw [HG2.out]; rfl, rfl⟩
        · have HG2 := Lib.hid (HG.out.trans (decide_eq_false hz))
          go_wp2
          go_ret
          exact ⟨by rw [HG2.out]; rfl, rfl⟩
end Go.Proofs.YtdeihlbnlogjcaaDoor
