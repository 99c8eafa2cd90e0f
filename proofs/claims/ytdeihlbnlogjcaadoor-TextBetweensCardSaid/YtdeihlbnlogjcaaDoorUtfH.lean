/- The contract of utf's Offset. -/
import Derived.Test.YtdeihlbnlogjcaaDoorUtfG
namespace Go.Proofs.YtdeihlbnlogjcaaDoor
open Go.RowKit Go.Lib Go.Shelf
attribute [local go_sem] Oper.semAt_some
set_option maxRecDepth 100000
set_option linter.unusedVariables false
set_option linter.unusedSectionVars false

theorem places_make (s : ByteArray) (w : World) : Calls Tryd.prog 61 #[.string s] w fun e w' => e = .returned (.func (.func 74) #[] #[.pointer (some ⟨w.heap.size, 0, none⟩)]) ∧ w' = w.alloc (.cells #[.string s] 9) := by
  go_enter Tryd.func61, Tryd.ntmps61
  go_wp2
  go_ret
  exact ⟨rfl, rfl⟩
theorem cell_box {W : World} {B : Nat} {v : Value} {t : TypeId} (h : W.heap[B]? = some (.cells #[v] t (0, 0))) : W.cell? ⟨B, 0, none⟩ = some v ∧ W.frozen? ⟨B, 0, none⟩ = false := by
  constructor <;> simp [World.cell?, World.frozen?, h]
theorem cell_fresh (W : World) (v : Value) (t : TypeId) : (W.alloc (.cells #[v] t)).cell? ⟨W.heap.size, 0, none⟩ = some v ∧ (W.alloc (.cells #[v] t)).frozen? ⟨W.heap.size, 0, none⟩ = false :=
  cell_box (World.alloc_heap_new W _)
theorem find_off : ∀ (rs : List Int) (o u n : Int), Ut.offF o u rs n = ((Ut.placesF o u rs).find? (fun x => decide (x.2 = n))).map (·.1)
  | [], o, u, n => by
    rw [Ut.offF, Ut.placesF]
    by_cases h : u = n <;> simp [h]
  | r :: rs, o, u, n => by
    rw [Ut.offF, Ut.placesF]
    by_cases h : u = n
    · simp [h]
    · rw [if_neg h, find_off rs]
      simp [h]
theorem find_unit : ∀ (rs : List Int) (o u n : Int), Ut.unitF o u rs n = ((Ut.placesF o u rs).find? (fun x => decide (x.1 = n))).map (·.2)
  | [], o, u, n => by
    rw [Ut.unitF, Ut.placesF]
    by_cases h : o = n <;> simp [h]
  | r :: rs, o, u, n => by
    rw [Ut.unitF, Ut.placesF]
    by_cases h : o = n
    · simp [h]
    · rw [if_neg h, find_unit rs]
      simp [h]
theorem find_none {α : Type} {p : α → Bool} {l : List α} (h : ∀ x ∈ l, p x = false) : l.find? p = none := by
  rw [List.find?_eq_none]
  intro x hx
  rw [h x hx]
  exact nofun
theorem find_pre {α : Type} {p : α → Bool} {l q : List α} {x : α} (hq : (q ++ [x]) <+: l) (hn : ∀ y ∈ q, p y = false) (hx : p x = true) : l.find? p = some x := by
  obtain ⟨t, rfl⟩ := hq
  rw [List.append_assoc, List.find?_append, find_none hn]
  simp [hx]
/-- what Offset answers. -/
def OffPost (L : List UInt8) (n : Int) (w : World) (e : Ending) (w' : World) : Prop :=
  e = .returned (.tuple (if validD L = true then (match Ut.offF 0 0 (Ut.runesF L) n with | some o => #[.int .i64 o, .int .i64 0] | none => #[.int .i64 0, .int .i64 70]) else #[.int .i64 0, .int .i64 40])) ∧ Below w.heap.size w w'
def UnitPost (L : List UInt8) (n : Int) (w : World) (e : Ending) (w' : World) : Prop :=
  e = .returned (.tuple (if validD L = true then (match Ut.unitF 0 0 (Ut.runesF L) n with | some o => #[.int .i64 o, .int .i64 0] | none => #[.int .i64 0, .int .i64 70]) else #[.int .i64 0, .int .i64 40])) ∧ Below w.heap.size w w'
/-- the three boxes that the call begins with. -/
def boxes (w : World) (want : Int) : World := ((w.alloc (.cells #[.int .i64 want] 3)).alloc (.cells #[.int .i64 0] 3)).alloc (.cells #[.int .i64 0] 28)
theorem boxes_after {w w1 : World} {want : Int} (h : Below (boxes w want).heap.size (boxes w want) w1) :
    w1.cell? ⟨w.heap.size, 0, none⟩ = some (.int .i64 want) ∧ w1.cell? ⟨w.heap.size + 1, 0, none⟩ = some (.int .i64 0) ∧ w1.frozen? ⟨w.heap.size + 1, 0, none⟩ = false ∧
    w1.cell? ⟨w.heap.size + 1 + 1, 0, none⟩ = some (.int .i64 0) ∧ w1.frozen? ⟨w.heap.size + 1 + 1, 0, none⟩ = false ∧ Below w.heap.size w w1 ∧ w.heap.size + 3 ≤ w1.heap.size := by
  have hs : (boxes w want).heap.size = w.heap.size + 3 := by simp [boxes]
  have e0 : (boxes w want).heap[w.heap.size]? = some (.cells #[.int .i64 want] 3) := by
    unfold boxes
    rw [Below.heap_alloc _ _ _ (by simp; omega), Below.heap_alloc _ _ _ (by simp)]
    exact World.alloc_heap_new w _
  have e1 : (boxes w want).heap[w.heap.size + 1]? = some (.cells #[.int .i64 0] 3) := by
    unfold boxes
    rw [Below.heap_alloc _ _ _ (by simp)]
    have := World.alloc_heap_new (w.alloc (.cells #[.int .i64 want] 3)) (.cells #[.int .i64 0] 3)
    rwa [World.size_alloc] at this
  have e2 : (boxes w want).heap[w.heap.size + 2]? = some (.cells #[.int .i64 0] 28) := by
    unfold boxes
    have := World.alloc_heap_new ((w.alloc (.cells #[.int .i64 want] 3)).alloc (.cells #[.int .i64 0] 3)) (.cells #[.int .i64 0] 28)
    rwa [World.size_alloc, World.size_alloc] at this
  have hbb : Below w.heap.size w (boxes w want) := (((Below.refl _ w).alloc (Nat.le_refl _) _).alloc (by simp) _).alloc (by simp; omega) _
  rw [hs] at h
  have g0 := (h.block w.heap.size (by omega)).trans e0
  have g1 := (h.block (w.heap.size + 1) (by omega)).trans e1
  have g2 := (h.block (w.heap.size + 2) (by omega)).trans e2
  exact ⟨(cell_box g0).1, (cell_box g1).1, (cell_box g1).2, (cell_box g2).1, (cell_box g2).2, hbb.trans (h.mono (by omega)), by have := h.size; omega⟩
theorem two_set {W : World} {g : Nat} {a b u v : Value} (h1 : W.cell? ⟨g + 1, 0, none⟩ = some a) (h2 : W.cell? ⟨g + 1 + 1, 0, none⟩ = some b) :
    ((W.setCell ⟨g + 1, 0, none⟩ u).setCell ⟨g + 1 + 1, 0, none⟩ v).cell? ⟨g + 1, 0, none⟩ = some u ∧ ((W.setCell ⟨g + 1, 0, none⟩ u).setCell ⟨g + 1 + 1, 0, none⟩ v).cell? ⟨g + 1 + 1, 0, none⟩ = some v := by
  constructor
  · rw [World.cell?_setCell_other _ _ _ _ (by simp)]
    exact World.cell?_setCell_same' _ _ _ (by rw [h1]; rfl)
  · refine World.cell?_setCell_same' _ _ _ ?_
    rw [World.cell?_setCell_other _ _ _ _ (by simp), h2]
    rfl
theorem two_below {w W : World} {u v : Value} (h : Below w.heap.size w W) : Below w.heap.size w ((W.setCell ⟨w.heap.size + 1, 0, none⟩ u).setCell ⟨w.heap.size + 1 + 1, 0, none⟩ v) :=
  (h.setCell (p := ⟨w.heap.size + 1, 0, none⟩) (by simp) _).setCell (p := ⟨w.heap.size + 1 + 1, 0, none⟩) (by simp; omega) _
theorem two_others (W : World) (g : Nat) (u v : Value) : KeepsOthers W ((W.setCell ⟨g + 1, 0, none⟩ u).setCell ⟨g + 1 + 1, 0, none⟩ v) := (KeepsOthers.setCell _ _ _).trans (KeepsOthers.setCell _ _ _)
theorem two_put {W : World} {D g : Nat} {u v : Value} (hK : W.heap[D]? = some (.deferred (some []))) (h1 : W.cell? ⟨g + 1, 0, none⟩ = some u) (h2 : W.cell? ⟨g + 1 + 1, 0, none⟩ = some v) :
    (W.putObj D (.deferred none)).cell? ⟨g + 1, 0, none⟩ = some u ∧ (W.putObj D (.deferred none)).cell? ⟨g + 1 + 1, 0, none⟩ = some v :=
  ⟨cell_kept h1 (grownBy_putObj' _ D (.deferred none)) (fun r e => by cases e; exact ⟨_, hK, rfl⟩), cell_kept h2 (grownBy_putObj' _ D (.deferred none)) (fun r e => by cases e; exact ⟨_, hK, rfl⟩)⟩
set_option maxHeartbeats 2000000 in
theorem offset_in (n : Nat) (hn : 3 ≤ n) (s : ByteArray) (want : Int) (w : World) (hs : s.size ≤ 1099511627776) (hT : Tabs w) :
    CallsIn Fence.wide n Tryd.prog 34 #[.string s, .int .i64 want] w (OffPost s.data.toList want w) := by
  have h1 : 1 ≤ n := by omega
  have hBA : Below w.heap.size w (((w.alloc (.cells #[.int .i64 want] 3)).alloc (.cells #[.int .i64 0] 3)).alloc (.cells #[.int .i64 0] 28)) := (((Below.refl _ w).alloc (Nat.le_refl _) _).alloc (by simp) _).alloc (by simp; omega) _
  have HVS := Lib.hid (vs s _ (by omega) (Utf8Tabs_below hT hBA))
  refine callsIn_of_wp_marks Tryd.func34 rfl trivial ?_ rfl
  simp only [Tryd.ntmps34, List.size_toArray, List.length_cons, List.length_nil, Nat.reduceAdd, Nat.reduceSub, Array.replicate_succ, Array.replicate_zero, List.push_toArray, List.append_toArray, List.nil_append, List.cons_append]
  cases hv : validD s.data.toList
  · rw [hv] at HVS
    gi_wp2
    refine ⟨trivial, ?_⟩
    gi_at_call 54
    refine (callsIn_wide.2 HVS.out).mono ?_
    rintro e w1 ⟨rfl, hb1⟩
    obtain ⟨d0, d1, f1, d2, f2, hB1, hs1⟩ := boxes_after (w := w) (want := want) hb1
    have HB1 := Lib.hid hB1
    clear hb1 hB1 hBA HVS
    gi_wp2
    obtain ⟨c1, c2⟩ := two_set (u := .int .i64 0) (v := .int .i64 40) d1 d2
    refine ⟨.tuple #[.int .i64 0, .int .i64 40], ?_, by rw [hv]; rfl, two_below HB1.out⟩
    simp [results, Tryd.f34, go_sem, c1, c2]
  · rw [hv] at HVS
    gi_wp2
    refine ⟨trivial, ?_⟩
    gi_at_call 54
    refine (callsIn_wide.2 HVS.out).mono ?_
    rintro e w1 ⟨rfl, hb1⟩
    obtain ⟨d0, d1, f1, d2, f2, hB1, hs1⟩ := boxes_after (w := w) (want := want) hb1
    have HB1 := Lib.hid hB1
    clear hb1 hB1 hBA HVS
    gi_wp2
    refine ⟨trivial, ?_⟩
    gi_at_call 61
    refine (callsIn_wide.2 (places_make s w1)).mono ?_
    rintro e w2 ⟨rfl, rfl⟩
    gi_wp2
    have c3 := cell_fresh w1 (.string s) 9
    have hA1 := (Below.refl w1.heap.size w1).alloc (Nat.le_refl _) (.cells #[.string s] 9)
    have hB2 := HB1.out.alloc (by omega) (.cells #[.string s] 9)
    refine wpIn_rangeFunc_ownF rfl h1 (gf := 74) (lb := #[.pointer (some ⟨w1.heap.size, 0, none⟩)]) rfl trivial (enters_of Tryd.func74 (by kernel_rfl) rfl)
      (places_stops (n - 1) (by omega) w1.heap.size (w1.heap.size + 1) s _ (by omega) (by simp) c3.1 hs hv)
      (fun h k => ⟨belowK_t h.1 k.1, walksK_t h.2 k.2⟩) (fun W l o o' h1 h2 h3 h4 => ⟨belowK_b (n₀ := w1.heap.size + 1) (by simp) W l o o' h1 h2 h3 h4, walksK_b W l o o' h1 h2 h3 h4⟩) (Below.refl _ _) (fun _ => rfl)
      (fun pre W => ((∀ y ∈ pre, decide (y.2 = want) = false) ∧ W.cell? ⟨w.heap.size, 0, none⟩ = some (.int .i64 want) ∧ W.cell? ⟨w.heap.size + 1, 0, none⟩ = some (.int .i64 0) ∧ W.frozen? ⟨w.heap.size + 1, 0, none⟩ = false ∧ W.cell? ⟨w.heap.size + 1 + 1, 0, none⟩ = some (.int .i64 0) ∧ W.frozen? ⟨w.heap.size + 1 + 1, 0, none⟩ = false) ∧ Below w.heap.size w W)
      (fun c pre W => (c = .ret ∧ ∃ q x, pre = q ++ [x] ∧ (∀ y ∈ q, decide (y.2 = want) = false) ∧ x.2 = want ∧ W.cell? ⟨w.heap.size + 1, 0, none⟩ = some (.int .i64 x.1) ∧ W.cell? ⟨w.heap.size + 1 + 1, 0, none⟩ = some (.int .i64 0)) ∧ Below w.heap.size w W)
      (OwnFrom.and (Own.from (fun s A B row hs hg hr => ⟨hs.1, cell_kept hs.2.1 hg hr, cell_kept hs.2.2.1 hg hr, (frozen_kept hs.2.2.1 hg hr).trans hs.2.2.2.1, cell_kept hs.2.2.2.2.1 hg hr, (frozen_kept hs.2.2.2.2.1 hg hr).trans hs.2.2.2.2.2⟩) _) (ownFrom_below (Nat.le_refl _) (by simp; omega)))
      (fun c => OwnFrom.and (Own.from (fun s A B row hs hg hr => ⟨hs.1, by
        obtain ⟨-, q, x, e1, e2, e3, e4, e5⟩ := hs
        exact ⟨q, x, e1, e2, e3, cell_kept e4 hg hr, cell_kept e5 hg hr⟩⟩) _) (ownFrom_below (Nat.le_refl _) (by simp; omega)))
      ⟨⟨by simp, (hA1.cell (p := ⟨w.heap.size, 0, none⟩) (by show w.heap.size < _; omega)).trans d0, (hA1.cell (p := ⟨w.heap.size + 1, 0, none⟩) (by show w.heap.size + 1 < _; omega)).trans d1, (hA1.frozen (p := ⟨w.heap.size + 1, 0, none⟩) (by show w.heap.size + 1 < _; omega)).trans f1, (hA1.cell (p := ⟨w.heap.size + 1 + 1, 0, none⟩) (by show w.heap.size + 1 + 1 < _; omega)).trans d2, (hA1.frozen (p := ⟨w.heap.size + 1 + 1, 0, none⟩) (by show w.heap.size + 1 + 1 < _; omega)).trans f2⟩, hB2⟩
      (fun x => { tmps := #[.string s, .int .i64 want, undef, .pointer (some ⟨w.heap.size, 0, none⟩), .pointer (some ⟨w.heap.size + 1, 0, none⟩), .pointer (some ⟨w.heap.size + 1 + 1, 0, none⟩), .int .i64 x.1, .int .i64 x.2, .string s, .bool true, .bool false, .string s, .func (.func 74) #[] #[.pointer (some ⟨w1.heap.size, 0, none⟩)], .int .i64 x.1, .int .i64 x.2, undef, undef, undef, undef], defers := [] }) ?assign ?body ?done ?stop
    case assign =>
      intro l x W K hK
      dsimp only [pEnc]
      gi_wp2
      exact hK
    case body =>
      rintro l pre x W ⟨⟨hp, g0, g1, h1, g2, h2⟩, hB⟩ _
      gi_wp2
      · rename_i hx
        obtain ⟨c1, c2⟩ := two_set (u := .int .i64 x.1) (v := .int .i64 0) g1 g2
        exact ⟨two_others _ _ _ _, ⟨rfl, pre, x, rfl, hp, by simpa using hx, c1, c2⟩, two_below hB⟩
      · rename_i hx
        exact ⟨KeepsOthers.refl _, ⟨Below.refl _ _, KeepsWalks.refl _⟩, ⟨fun y hy => (List.mem_append.1 hy).elim (hp y) (fun e => by simp at e; subst e; simpa using hx), g0, g1, h1, g2, h2⟩, hB⟩
    case done =>
      rintro D ys W hD rfl ⟨⟨hp, g0, g1, h1, g2, h2⟩, hB⟩ hK
      gi_wp2
      have hK' := (two_others W w.heap.size (.int .i64 0) (.int .i64 70)).same D _ hK rfl
      obtain ⟨c1, c2⟩ := two_set (u := .int .i64 0) (v := .int .i64 70) g1 g2
      obtain ⟨c1, c2⟩ := two_put hK' c1 c2
      refine ⟨by simp, .inl ⟨_, _, rfl, run_takeDeferred hK', ?_⟩⟩
      refine ⟨.tuple #[.int .i64 0, .int .i64 70], ?_, by rw [if_pos hv, find_off, find_none hp]; rfl, (two_below hB).trans (belowK_b (w := w) (Nat.le_refl _) _ D _ _ (by simp at hD; omega) hK' rfl rfl)⟩
      simp [results, Tryd.f34, go_sem, c1, c2]
    case stop =>
      rintro D c pre W hD hpre ⟨⟨rfl, q, x, e1, e2, e3, g1, g2⟩, hB⟩ hK
      gi_wp2
      subst e1
      obtain ⟨c1, c2⟩ := two_put hK g1 g2
      refine ⟨by simp, .inl ⟨_, _, rfl, run_takeDeferred hK, ?_⟩⟩
      refine ⟨.tuple #[.int .i64 x.1, .int .i64 0], ?_, by rw [if_pos hv, find_off, find_pre hpre e2 (by simpa using e3)]; rfl, hB.trans (belowK_b (w := w) (Nat.le_refl _) W D _ _ (by simp at hD; omega) hK rfl rfl)⟩
      simp [results, Tryd.f34, go_sem, c1, c2]
theorem offset_any (s : ByteArray) (want : Int) (w : World) (hs : s.size ≤ 1099511627776) (hT : Tabs w) : Calls Tryd.prog 34 #[.string s, .int .i64 want] w (OffPost s.data.toList want w) :=
  callsIn_wide.1 (offset_in 3 (by omega) s want w hs hT)
set_option maxHeartbeats 2000000 in
theorem unit_in (n : Nat) (hn : 3 ≤ n) (s : ByteArray) (want : Int) (w : World) (hs : s.size ≤ 1099511627776) (hT : Tabs w) :
    CallsIn Fence.wide n Tryd.prog 36 #[.string s, .int .i64 want] w (UnitPost s.data.toList want w) := by
  have h1 : 1 ≤ n := by omega
  have hBA : Below w.heap.size w (((w.alloc (.cells #[.int .i64 want] 3)).alloc (.cells #[.int .i64 0] 3)).alloc (.cells #[.int .i64 0] 28)) := (((Below.refl _ w).alloc (Nat.le_refl _) _).alloc (by simp) _).alloc (by simp; omega) _
  have HVS := Lib.hid (vs s _ (by omega) (Utf8Tabs_below hT hBA))
  refine callsIn_of_wp_marks Tryd.func36 rfl trivial ?_ rfl
  simp only [Tryd.ntmps36, List.size_toArray, List.length_cons, List.length_nil, Nat.reduceAdd, Nat.reduceSub, Array.replicate_succ, Array.replicate_zero, List.push_toArray, List.append_toArray, List.nil_append, List.cons_append]
  cases hv : validD s.data.toList
  · rw [hv] at HVS
    gi_wp2
    refine ⟨trivial, ?_⟩
    gi_at_call 54
    refine (callsIn_wide.2 HVS.out).mono ?_
    rintro e w1 ⟨rfl, hb1⟩
    obtain ⟨d0, d1, f1, d2, f2, hB1, hs1⟩ := boxes_after (w := w) (want := want) hb1
    have HB1 := Lib.hid hB1
    clear hb1 hB1 hBA HVS
    gi_wp2
    obtain ⟨c1, c2⟩ := two_set (u := .int .i64 0) (v := .int .i64 40) d1 d2
    refine ⟨.tuple #[.int .i64 0, .int .i64 40], ?_, by rw [hv]; rfl, two_below HB1.out⟩
    simp [results, Tryd.f36, go_sem, c1, c2]
  · rw [hv] at HVS
    gi_wp2
    refine ⟨trivial, ?_⟩
    gi_at_call 54
    refine (callsIn_wide.2 HVS.out).mono ?_
    rintro e w1 ⟨rfl, hb1⟩
    obtain ⟨d0, d1, f1, d2, f2, hB1, hs1⟩ := boxes_after (w := w) (want := want) hb1
    have HB1 := Lib.hid hB1
    clear hb1 hB1 hBA HVS
    gi_wp2
    refine ⟨trivial, ?_⟩
    gi_at_call 61
    refine (callsIn_wide.2 (places_make s w1)).mono ?_
    rintro e w2 ⟨rfl, rfl⟩
    gi_wp2
    have c3 := cell_fresh w1 (.string s) 9
    have hA1 := (Below.refl w1.heap.size w1).alloc (Nat.le_refl _) (.cells #[.string s] 9)
    have hB2 := HB1.out.alloc (by omega) (.cells #[.string s] 9)
    refine wpIn_rangeFunc_ownF rfl h1 (gf := 74) (lb := #[.pointer (some ⟨w1.heap.size, 0, none⟩)]) rfl trivial (enters_of Tryd.func74 (by kernel_rfl) rfl)
      (places_stops (n - 1) (by omega) w1.heap.size (w1.heap.size + 1) s _ (by omega) (by simp) c3.1 hs hv)
      (fun h k => ⟨belowK_t h.1 k.1, walksK_t h.2 k.2⟩) (fun W l o o' h1 h2 h3 h4 => ⟨belowK_b (n₀ := w1.heap.size + 1) (by simp) W l o o' h1 h2 h3 h4, walksK_b W l o o' h1 h2 h3 h4⟩) (Below.refl _ _) (fun _ => rfl)
      (fun pre W => ((∀ y ∈ pre, decide (y.1 = want) = false) ∧ W.cell? ⟨w.heap.size, 0, none⟩ = some (.int .i64 want) ∧ W.cell? ⟨w.heap.size + 1, 0, none⟩ = some (.int .i64 0) ∧ W.frozen? ⟨w.heap.size + 1, 0, none⟩ = false ∧ W.cell? ⟨w.heap.size + 1 + 1, 0, none⟩ = some (.int .i64 0) ∧ W.frozen? ⟨w.heap.size + 1 + 1, 0, none⟩ = false) ∧ Below w.heap.size w W)
      (fun c pre W => (c = .ret ∧ ∃ q x, pre = q ++ [x] ∧ (∀ y ∈ q, decide (y.1 = want) = false) ∧ x.1 = want ∧ W.cell? ⟨w.heap.size + 1, 0, none⟩ = some (.int .i64 x.2) ∧ W.cell? ⟨w.heap.size + 1 + 1, 0, none⟩ = some (.int .i64 0)) ∧ Below w.heap.size w W)
      (OwnFrom.and (Own.from (fun s A B row hs hg hr => ⟨hs.1, cell_kept hs.2.1 hg hr, cell_kept hs.2.2.1 hg hr, (frozen_kept hs.2.2.1 hg hr).trans hs.2.2.2.1, cell_kept hs.2.2.2.2.1 hg hr, (frozen_kept hs.2.2.2.2.1 hg hr).trans hs.2.2.2.2.2⟩) _) (ownFrom_below (Nat.le_refl _) (by simp; omega)))
      (fun c => OwnFrom.and (Own.from (fun s A B row hs hg hr => ⟨hs.1, by
        obtain ⟨-, q, x, e1, e2, e3, e4, e5⟩ := hs
        exact ⟨q, x, e1, e2, e3, cell_kept e4 hg hr, cell_kept e5 hg hr⟩⟩) _) (ownFrom_below (Nat.le_refl _) (by simp; omega)))
      ⟨⟨by simp, (hA1.cell (p := ⟨w.heap.size, 0, none⟩) (by show w.heap.size < _; omega)).trans d0, (hA1.cell (p := ⟨w.heap.size + 1, 0, none⟩) (by show w.heap.size + 1 < _; omega)).trans d1, (hA1.frozen (p := ⟨w.heap.size + 1, 0, none⟩) (by show w.heap.size + 1 < _; omega)).trans f1, (hA1.cell (p := ⟨w.heap.size + 1 + 1, 0, none⟩) (by show w.heap.size + 1 + 1 < _; omega)).trans d2, (hA1.frozen (p := ⟨w.heap.size + 1 + 1, 0, none⟩) (by show w.heap.size + 1 + 1 < _; omega)).trans f2⟩, hB2⟩
      (fun x => { tmps := #[.string s, .int .i64 want, undef, .pointer (some ⟨w.heap.size, 0, none⟩), .pointer (some ⟨w.heap.size + 1, 0, none⟩), .pointer (some ⟨w.heap.size + 1 + 1, 0, none⟩), .int .i64 x.1, .int .i64 x.2, .string s, .bool true, .bool false, .string s, .func (.func 74) #[] #[.pointer (some ⟨w1.heap.size, 0, none⟩)], .int .i64 x.1, .int .i64 x.2, undef, undef, undef, undef], defers := [] }) ?assign ?body ?done ?stop
    case assign =>
      intro l x W K hK
      dsimp only [pEnc]
      gi_wp2
      exact hK
    case body =>
      rintro l pre x W ⟨⟨hp, g0, g1, h1, g2, h2⟩, hB⟩ _
      gi_wp2
      · rename_i hx
        obtain ⟨c1, c2⟩ := two_set (u := .int .i64 x.2) (v := .int .i64 0) g1 g2
        exact ⟨two_others _ _ _ _, ⟨rfl, pre, x, rfl, hp, by simpa using hx, c1, c2⟩, two_below hB⟩
      · rename_i hx
        exact ⟨KeepsOthers.refl _, ⟨Below.refl _ _, KeepsWalks.refl _⟩, ⟨fun y hy => (List.mem_append.1 hy).elim (hp y) (fun e => by simp at e; subst e; simpa using hx), g0, g1, h1, g2, h2⟩, hB⟩
    case done =>
      rintro D ys W hD rfl ⟨⟨hp, g0, g1, h1, g2, h2⟩, hB⟩ hK
      gi_wp2
      have hK' := (two_others W w.heap.size (.int .i64 0) (.int .i64 70)).same D _ hK rfl
      obtain ⟨c1, c2⟩ := two_set (u := .int .i64 0) (v := .int .i64 70) g1 g2
      obtain ⟨c1, c2⟩ := two_put hK' c1 c2
      refine ⟨by simp, .inl ⟨_, _, rfl, run_takeDeferred hK', ?_⟩⟩
      refine ⟨.tuple #[.int .i64 0, .int .i64 70], ?_, by rw [if_pos hv, find_unit, find_none hp]; rfl, (two_below hB).trans (belowK_b (w := w) (Nat.le_refl _) _ D _ _ (by simp at hD; omega) hK' rfl rfl)⟩
      simp [results, Tryd.f36, go_sem, c1, c2]
    case stop =>
      rintro D c pre W hD hpre ⟨⟨rfl, q, x, e1, e2, e3, g1, g2⟩, hB⟩ hK
      gi_wp2
      subst e1
      obtain ⟨c1, c2⟩ := two_put hK g1 g2
      refine ⟨by simp, .inl ⟨_, _, rfl, run_takeDeferred hK, ?_⟩⟩
      refine ⟨.tuple #[.int .i64 x.2, .int .i64 0], ?_, by rw [if_pos hv, find_unit, find_pre hpre e2 (by simpa using e3)]; rfl, hB.trans (belowK_b (w := w) (Nat.le_refl _) W D _ _ (by simp at hD; omega) hK rfl rfl)⟩
      simp [results, Tryd.f36, go_sem, c1, c2]
theorem unit_any (s : ByteArray) (want : Int) (w : World) (hs : s.size ≤ 1099511627776) (hT : Tabs w) : Calls Tryd.prog 36 #[.string s, .int .i64 want] w (UnitPost s.data.toList want w) :=
  callsIn_wide.1 (unit_in 3 (by omega) s want w hs hT)
end Go.Proofs.YtdeihlbnlogjcaaDoor
