/- A type that came in, opened. -/
import Derived.Test.YtmpmibebkflaiaaGreatDoorTypGr
import Derived.Lib.SmallJoins
namespace Go.Proofs.YtmpmibebkflaiaaGreatDoor
open Go.RowKit Go.Lib Go.Shelf Go.ChangeShapes Go.WideShapes Go.Deep Tp
set_option maxRecDepth 100000
set_option linter.unusedVariables false
set_option linter.unusedSectionVars false

/-- a type that came in. -/
def ArgTy (w : World) (v : Value) (t : Ty) : Prop := ∃ s, v = tv t s ∧ IsA w (Old w) t.args s ∧ fit t ∧ numsOk t
/-- a slice of types that came in. -/
def ArgTys (w : World) (v : Value) (ts : List Ty) : Prop := IsA w (Old w) ts v ∧ (∀ t ∈ ts, fit t ∧ numsOk t) ∧ ts.length ≤ 2513169434843
theorem list_ofT {α : Type} {p : Nat → α → Prop} : ∀ (n : Nat), (∀ i, i < n → ∃ x, p i x) → ∃ l : List α, l.length = n ∧ ∀ (i : Nat) (x : α), l[i]? = some x → p i x
  | 0, _ => ⟨[], rfl, fun i x h => by simp at h⟩
  | n + 1, h => by
    obtain ⟨l, hl, hp⟩ := list_ofT n fun i hi => h i (by omega)
    obtain ⟨x, hx⟩ := h n (by omega)
    refine ⟨l ++ [x], by simp [hl], fun i y hy => ?_⟩
    rcases Nat.lt_or_ge i n with hi | hi
    · rw [List.getElem?_append_left (by omega)] at hy
      exact hp i y hy
    · rw [List.getElem?_append_right (by omega)] at hy
      have hj : i - l.length = 0 := by
        rcases Nat.eq_zero_or_pos (i - l.length) with h0 | h0
        · exact h0
        · rw [List.getElem?_eq_none (by simp; omega)] at hy; cases hy
      rw [hj] at hy
      obtain rfl : x = y := by simpa using hy
      obtain rfl : i = n := by omega
      exact hx
theorem typeFields : ∃ f0 f1 f2 f3 : Field, Tryz.prog.underlying 24 = some (.struct #[f0, f1, f2, f3]) ∧ (f0.type = 3 ∧ f0.offset = 0) ∧ (f1.type = 3 ∧ f1.offset = 1) ∧ (f2.type = 9 ∧ f2.offset = 2) ∧ (f3.type = 22 ∧ f3.offset = 3) :=
  ⟨_, _, _, _, Tryz.underlying24, ⟨rfl, rfl⟩, ⟨rfl, rfl⟩, ⟨rfl, rfl⟩, ⟨rfl, rfl⟩⟩
theorem list4T {α : Type} {l : List α} (h : l.length = 4) : ∃ a b c d, l = [a, b, c, d] := by
  match l, h with
  | [a, b, c, d], _ => exact ⟨a, b, c, d, rfl⟩
section
variable {H : Type} {P : Program} {enc : TypeId × Value → H} {W w : World} {base : Nat} {spare : Nat → Bool} {held : Bool}
theorem trod_struct4T {t : TypeId} {f0 f1 f2 f3 : Field} {fuel : Nat} {cs : List Value} {x : DataW H × List MemPlace} (ht : P.underlying t = some (.struct #[f0, f1, f2, f3])) (h : DataW.trod enc P w base spare held fuel t cs = some x) :
    ∃ (y0 y1 y2 y3 : DataW H × List MemPlace) (n : Nat), fuel = n + 1 ∧ x.1 = .agg [y0.1, y1.1, y2.1, y3.1] ∧ DataW.trod enc P w base spare held n f0.type ((cs.drop f0.offset).take (P.cellsOf f0.type)) = some y0 ∧
      DataW.trod enc P w base spare held n f1.type ((cs.drop f1.offset).take (P.cellsOf f1.type)) = some y1 ∧ DataW.trod enc P w base spare held n f2.type ((cs.drop f2.offset).take (P.cellsOf f2.type)) = some y2 ∧
      DataW.trod enc P w base spare held n f3.type ((cs.drop f3.offset).take (P.cellsOf f3.type)) = some y3 := by
  obtain ⟨xs, n, hn, rfl, hl, hlen, hf⟩ := DataW.trod_struct ht h
  match xs, hlen with
  | [y0, y1, y2, y3], _ => exact ⟨y0, y1, y2, y3, n, hn, by simp, by simpa using hf 0 f0 rfl, by simpa using hf 1 f1 rfl, by simpa using hf 2 f2 rfl, by simpa using hf 3 f3 rfl⟩
theorem weights_atT {P : Program} {e : TypeId} : ∀ {l : List (DataW H)} {d : DataW H} {n : Nat}, d ∈ l → n ∈ d.weights P e → n ∈ DataW.weightsAll P e l
  | x :: l, d, n, hd, hn => by
    simp only [DataW.weightsAll, List.mem_append]
    rcases List.mem_cons.1 hd with rfl | hd
    · exact .inl hn
    · exact .inr (weights_atT hd hn)
theorem fit_mk {t : Ty} (h1 : t.name.size ≤ 140737488351232) (h2 : t.args.length ≤ 2513169434843) (h : ∀ x ∈ t.args, fit x) : fit t := by
  intro p hp
  rw [parts_eq, partss_eq] at hp
  rcases List.mem_cons.1 hp with rfl | hp
  · exact ⟨h1, h2⟩
  · obtain ⟨y, hy, hpy⟩ := List.mem_flatMap.1 hp
    exact h y hy p hpy
theorem numsOk_mk {t : Ty} (h1 : (Lit.int .i64 t.num).wf = true) (h : ∀ x ∈ t.args, numsOk x) : numsOk t := by
  intro p hp
  rw [parts_eq, partss_eq] at hp
  rcases List.mem_cons.1 hp with rfl | hp
  · exact h1
  · obtain ⟨y, hy, hpy⟩ := List.mem_flatMap.1 hp
    exact h y hy p hpy
/-- a row of types, out of what is said of each element. -/
theorem isA_row {ad : Addr} {len cap : Nat} (hl : len ≤ cap) (h : ∀ i, i < len → ∃ (t : Ty) (s : Value), (∀ j, j < 4 → W.cell? (ad.add (i * 4 + j)) = (tyCells t s)[j]?) ∧ IsA W (Old W) t.args s ∧ fit t ∧ numsOk t) :
    ∃ ts : List Ty, ts.length = len ∧ IsA W (Old W) ts (.slice (some ad) len cap) ∧ ∀ t ∈ ts, fit t ∧ numsOk t := by
  obtain ⟨ps, hpl, hps⟩ := list_ofT (p := fun i (x : Ty × Value) => (∀ j, j < 4 → W.cell? (ad.add (i * 4 + j)) = (tyCells x.1 x.2)[j]?) ∧ IsA W (Old W) x.1.args x.2 ∧ fit x.1 ∧ numsOk x.1) len fun i hi => by
    obtain ⟨t, s, hh⟩ := h i hi
    exact ⟨(t, s), hh⟩
  refine ⟨ps.map (·.1), by rw [List.length_map, hpl], ?_, fun t ht => by
    obtain ⟨x, hx, rfl⟩ := List.mem_map.1 ht
    obtain ⟨i, hi, rfl⟩ := List.getElem_of_mem hx
    exact (hps i _ (List.getElem?_eq_getElem hi)).2.2⟩
  rcases Nat.eq_zero_or_pos len with h0 | hpos
  · subst h0
    obtain rfl := List.eq_nil_of_length_eq_zero hpl
    exact IsA.nil _ _ _ _
  obtain ⟨b, o, s⟩ := ad
  have hp0 : 0 < ps.length := by omega
  have h0 := (hps 0 ps[0] (List.getElem?_eq_getElem hp0)).1 0 (by omega)
  rw [show (tyCells ps[0].1 ps[0].2)[0]? = some (.int .i64 ps[0].1.kind) from rfl] at h0
  have hs : s = none := by
    cases s with
    | none => rfl
    | some s =>
      exfalso
      unfold World.cell? at h0
      split at h0
      · simp [Addr.add] at h0
      · cases h0
  subst hs
  have hblt : b < W.heap.size := by
    rcases Nat.lt_or_ge b W.heap.size with h | h
    · exact h
    · exfalso
      unfold World.cell? at h0
      rw [show (Addr.add ⟨b, o, none⟩ (0 * 4 + 0)).block = b from rfl, Array.getElem?_eq_none h] at h0
      cases h0
  have hadd : ∀ i, (Addr.add ⟨b, o, none⟩ i) = ⟨b, o + i, none⟩ := fun i => by simp [Addr.add]
  refine .mk _ _ _ cap b o (fun i => (ps[i]?.map (·.2)).getD .nilIface) (by rw [List.length_map, hpl]) hl (fun _ => ⟨rfl, hblt⟩) (fun i t hi => ?_) (fun i t hi => ?_)
  · rw [List.getElem?_map, Option.map_eq_some_iff] at hi
    obtain ⟨p, hp, rfl⟩ := hi
    obtain ⟨hc, -⟩ := hps i p hp
    have hj : ∀ j, j < 4 → W.cell? ⟨b, o + i * 4 + j, none⟩ = (tyCells p.1 p.2)[j]? := fun j hj => by
      have := hc j hj
      rw [hadd, ← Nat.add_assoc] at this
      exact this
    rw [hp]
    exact ⟨hj 0 (by omega), hj 1 (by omega), hj 2 (by omega), hj 3 (by omega)⟩
  · rw [List.getElem?_map, Option.map_eq_some_iff] at hi
    obtain ⟨p, hp, rfl⟩ := hi
    show IsA W _ p.1.args ((ps[i]?.map (·.2)).getD .nilIface)
    rw [hp]
    exact (hps i p hp).2.1
/-- a slice's elements, out of what is said of each type's cells. -/
theorem open_row {n : Nat} (ih : ∀ (m : Nat), m < n → ∀ (cs : List Value) (y : DataW H × List MemPlace), cs.length = 4 → DataW.trod enc Tryz.prog W base spare held m 24 cs = some y → (∀ k ∈ y.1.weights Tryz.prog 24, k ≤ reachBytes) →
      ∃ (t : Ty) (s : Value), cs = tyCells t s ∧ IsA W (Old W) t.args s ∧ fit t ∧ numsOk t) {cs : List Value} {y : DataW H × List MemPlace}
    (h : DataW.trod enc Tryz.prog W base spare held n 22 cs = some y) (hw : ∀ k ∈ y.1.weights Tryz.prog 22, k ≤ reachBytes) :
    ∃ (ts : List Ty) (s : Value), cs = [s] ∧ IsA W (Old W) ts s ∧ (∀ t ∈ ts, fit t ∧ numsOk t) ∧ ts.length ≤ 2513169434843 := by
  have hc4 : Tryz.prog.cellsOf 24 = 4 := by kernel_rfl
  rcases DataW.trod_slice Tryz.underlying22 h with ⟨rfl, -⟩ | ⟨ad, len, cap, elems, rest, m, hn, rfl, rfl, hb, hl, hm, hlen, hel, -, -⟩
  · exact ⟨[], _, rfl, IsA.nil _ _ _ _, by simp, by simp⟩
  · have hwe : ∀ i (hi : i < len), ∃ (t : Ty) (s : Value), (∀ j, j < 4 → W.cell? (ad.add (i * 4 + j)) = (tyCells t s)[j]?) ∧ IsA W (Old W) t.args s ∧ fit t ∧ numsOk t := by
      intro i hi
      have he := hel i hi
      rw [List.getElem?_eq_getElem (by omega), hc4] at he
      obtain ⟨cs', hcs', htr⟩ := Option.bind_eq_some_iff.1 he
      obtain ⟨_, hcl, hat⟩ := World.cells?_some hcs'
      obtain ⟨t, s, rfl, h1, h2, h3⟩ := ih m (by omega) cs' _ hcl htr (fun k hk => hw k (by
        simp only [DataW.weights, Tryz.underlying22, List.mem_cons, List.mem_append]
        exact .inr (.inl (weights_atT (List.mem_map.2 ⟨_, List.getElem_mem _, rfl⟩) hk))))
      refine ⟨t, s, fun j hj => ?_, h1, h2, h3⟩
      have := hat j hj
      rw [Go.Deep.add_add] at this
      exact this
    obtain ⟨ts, htl, hA, hff⟩ := isA_row hl hwe
    refine ⟨ts, _, rfl, hA, hff, ?_⟩
    have hlw := hw (((elems.map (·.1)).length + (rest.map (·.1)).length) * Tryz.prog.bytesOf 24) (by
      simp only [DataW.weights, Tryz.underlying22, List.mem_cons, List.mem_append]
      exact .inl trivial)
    rw [show Tryz.prog.bytesOf 24 = 56 by kernel_rfl] at hlw
    unfold reachBytes at hlw
    simp only [List.length_map] at hlw
    omega
theorem open_ty (fuel : Nat) : ∀ (cs : List Value) (y : DataW H × List MemPlace), cs.length = 4 → DataW.trod enc Tryz.prog W base spare held fuel 24 cs = some y → (∀ k ∈ y.1.weights Tryz.prog 24, k ≤ reachBytes) →
      ∃ (t : Ty) (s : Value), cs = tyCells t s ∧ IsA W (Old W) t.args s ∧ fit t ∧ numsOk t := by
  induction fuel using Nat.strongRecOn with
  | ind fuel ih =>
    intro cs y hcl h hw
    have hc1 : Tryz.prog.cellsOf 3 = 1 := by kernel_rfl
    have hc2 : Tryz.prog.cellsOf 9 = 1 := by kernel_rfl
    have hc3 : Tryz.prog.cellsOf 22 = 1 := by kernel_rfl
    obtain ⟨f0, f1, f2, f3, hst, ⟨t0, o0⟩, ⟨t1, o1⟩, ⟨t2, o2⟩, t3, o3⟩ := typeFields
    obtain ⟨c0, c1, c2, c3, rfl⟩ := list4T hcl
    obtain ⟨y0, y1, y2, y3, n', hn', hy, h0, h1, h2, h3⟩ := trod_struct4T hst h
    simp only [t0, o0, t1, o1, t2, o2, t3, o3, hc1, hc2, hc3, List.drop_zero, List.take_succ_cons, List.take_zero, List.drop_succ_cons] at h0 h1 h2 h3
    obtain ⟨z0, e0, _, w0⟩ := DataW.trod_int Tryz.underlying3 h0
    obtain ⟨z1, e1, _, w1⟩ := DataW.trod_int Tryz.underlying3 h1
    obtain ⟨z2, e2, rfl, _⟩ := DataW.trod_string Tryz.underlying9 h2
    have hwt : ∀ k, (k = z2.size ∨ k ∈ y3.1.weights Tryz.prog 22) → k ≤ reachBytes := fun k hk => hw k (by
      rw [hy]
      rcases hk with rfl | hk
      · simp [DataW.weights, hst, DataW.weightsEach]
      · simp only [DataW.weights, hst, DataW.weightsEach, List.map, List.mem_append, t3]
        exact .inr (.inr (.inr (.inl hk))))
    obtain ⟨ts, s, e3, hA, hff, hlen⟩ := open_row (fun m hm => ih m (by omega)) h3 (fun k hk => hwt k (.inr hk))
    simp only [List.cons.injEq, and_true] at e0 e1 e2 e3
    subst e0 e1 e2 e3
    have hz := hwt _ (.inl rfl)
    unfold reachBytes at hz
    exact ⟨.mk z0 z1 z2 ts, c3, rfl, hA, fit_mk hz hlen fun x hx => (hff x hx).1, numsOk_mk w1 fun x hx => (hff x hx).2⟩
theorem open_type {r : Reach} {b0 : Nat} {v : Value} {d : DataW H} {p : List MemPlace} (hv : Value.okWide Tryz.prog W r b0 24 v) (h : DataW.Trod enc Tryz.prog W base spare held 24 v d p) (hw : ∀ n ∈ d.weights Tryz.prog 24, n ≤ reachBytes) : ∃ t, ArgTy W v t := by
  obtain ⟨fuel, hf⟩ := h
  obtain ⟨f0, f1, f2, f3, hst, -⟩ := typeFields
  obtain ⟨cs, rfl, hsz⟩ := okWide_struct hst hv
  obtain ⟨t, s, e, hA, h1, h2⟩ := open_ty fuel _ _ (by rw [show (Value.cells (.agg cs)) = cs from rfl, Array.length_toList, hsz]; kernel_rfl) hf hw
  refine ⟨t, s, ?_, hA, h1, h2⟩
  obtain ⟨l⟩ := cs
  show Value.agg _ = Value.agg _
  rw [show l = tyCells t s from e]
  rfl
theorem open_types {r : Reach} {b0 : Nat} {v : Value} {d : DataW H} {p : List MemPlace} (hv : Value.okWide Tryz.prog W r b0 22 v) (h : DataW.Trod enc Tryz.prog W base spare held 22 v d p) (hw : ∀ n ∈ d.weights Tryz.prog 22, n ≤ reachBytes) : ∃ ts, ArgTys W v ts := by
  obtain ⟨fuel, hf⟩ := h
  obtain ⟨a, len, cap, rfl⟩ := okWide_slice Tryz.underlying22 hv
  obtain ⟨ts, s, e, hA, h1, h2⟩ := open_row (fun m _ => open_ty m) hf hw
  obtain rfl : Value.slice a len cap = s := by simpa [Value.cells] using e
  exact ⟨ts, hA, h1, h2⟩
end
end Go.Proofs.YtmpmibebkflaiaaGreatDoor
