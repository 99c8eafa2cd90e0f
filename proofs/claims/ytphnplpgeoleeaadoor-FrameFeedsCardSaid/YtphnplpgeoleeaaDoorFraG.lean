/- The contract of frame's bodySize. -/
import Derived.Test.YtphnplpgeoleeaaDoorFraE
namespace Go.Proofs.YtphnplpgeoleeaaDoor
open Go.RowKit Go.Lib Go.Shelf
attribute [local go_sem] Oper.semAt_some
set_option maxRecDepth 100000
set_option linter.unusedVariables false
set_option linter.unusedSectionVars false

theorem linesN_len : ∀ f l, (linesN f l).length ≤ f
  | 0, _ => Nat.le_refl _
  | f + 1, l => by
    rw [linesN]
    split
    · simp
    · have := linesN_len f (Lib.cut l nl).2.1
      simpa using this
theorem linesN_mem : ∀ f l x, x ∈ linesN f l → x.length ≤ l.length
  | 0, _, _, h => by cases h
  | f + 1, l, x, h => by
    rw [linesN] at h
    have h2 := cut_len l nl
    split at h
    · cases h
    · rcases List.mem_cons.1 h with rfl | h
      · exact h2.1
      · exact Nat.le_trans (linesN_mem f _ x h) h2.2
theorem bodyF_le : ∀ (a : List (List UInt8)) (s f s' f' : Nat), bodyF a s f = some (s', f') → f' ≤ f + a.length ∧ (s ≤ 999999 → s' ≤ 999999)
  | [], s, f, s', f', h => by
    simp [bodyF] at h
    obtain ⟨rfl, rfl⟩ := h
    exact ⟨by simp, id⟩
  | l :: r, s, f, s', f', h => by
    rw [bodyF] at h
    split at h
    · cases h
    · have := bodyF_le r s f s' f' h
      simp only [List.length_cons]
      exact ⟨by omega, this.2⟩
    · rename_i n hn
      have := bodyF_le r n (f + 1) s' f' h
      simp only [List.length_cons]
      exact ⟨by omega, fun _ => this.2 (fieldF_le hn)⟩
theorem below_others {W W' : World} (h : Below W.heap.size W W') : KeepsOthers W W' := ⟨h.size, fun k o hk _ => (h.block k (Array.getElem?_eq_some_iff.1 hk).1).trans hk⟩
theorem boxed_below {W W' : World} {B : Nat} {t : TypeId} {v : Value} (h : Boxed W B t v) (hb : Below W.heap.size W W') : Boxed W' B t v := (hb.block B h.lt).trans h
theorem boxed_other {W : World} {B C : Nat} {t : TypeId} {v : Value} (h : Boxed W B t v) (u : Value) (hne : B ≠ C) : Boxed (W.setCell ⟨C, 0, none⟩ u) B t v := (Below.heap_setCell W ⟨C, 0, none⟩ u B hne).trans h
theorem ownO_boxed {β : Type} {B C : Nat} {O : Nat → Prop} {t : TypeId} (f : β → Value) (hB : C < B) (hO : ∀ r, O r → r ≠ C) : OwnO B O (fun (x : β) W => Boxed W C t (f x)) :=
  fun _ _ _ _ hs hg hr => hs.kept hg (fun e => (hr C e.symm).elim (fun h => absurd h.1 (by omega)) (fun h => hO C h rfl))
theorem ownO_pure {β : Type} (B : Nat) (O : Nat → Prop) (p : β → Prop) : OwnO B O (fun s (_ : World) => p s) := fun _ _ _ _ hs _ _ => hs
/-- the four boxes of bodySize. -/
def Four (g : Nat) (W : World) (c d : Int) : Prop := Boxed W g 3 (.int .i64 0) ∧ Boxed W (g + 1) 4 (.bool false) ∧ Boxed W (g + 1 + 1) 3 (.int .i64 c) ∧ Boxed W (g + 1 + 1 + 1) 3 (.int .i64 d)
theorem Four.below {g : Nat} {W W' : World} {c d : Int} (h : Four g W c d) (hb : Below W.heap.size W W') : Four g W' c d := ⟨boxed_below h.1 hb, boxed_below h.2.1 hb, boxed_below h.2.2.1 hb, boxed_below h.2.2.2 hb⟩
theorem Four.setC {g : Nat} {W : World} {c d : Int} (h : Four g W c d) (c' : Int) : Four g (W.setCell ⟨g + 1 + 1, 0, none⟩ (.int .i64 c')) c' d := ⟨boxed_other h.1 _ (by omega), boxed_other h.2.1 _ (by omega), h.2.2.1.set _, boxed_other h.2.2.2 _ (by omega)⟩
theorem Four.setD {g : Nat} {W : World} {c d : Int} (h : Four g W c d) (d' : Int) : Four g (W.setCell ⟨g + 1 + 1 + 1, 0, none⟩ (.int .i64 d')) c d' := ⟨boxed_other h.1 _ (by omega), boxed_other h.2.1 _ (by omega), boxed_other h.2.2.1 _ (by omega), h.2.2.2.set _⟩
theorem Four.own {β : Type} {g B : Nat} {O : Nat → Prop} (c d : β → Int) (hB : g + 4 ≤ B) (hO : ∀ r, O r → g + 4 ≤ r) : OwnO B O (fun (x : β) W => Four g W (c x) (d x)) := fun s W W' row hs hg hr =>
  ⟨ownO_boxed (fun _ => .int .i64 0) (by omega) (fun r h => by have := hO r h; omega) s W W' row hs.1 hg hr, ownO_boxed (fun _ => .bool false) (by omega) (fun r h => by have := hO r h; omega) s W W' row hs.2.1 hg hr,
   ownO_boxed (fun s => .int .i64 (c s)) (by omega) (fun r h => by have := hO r h; omega) s W W' row hs.2.2.1 hg hr, ownO_boxed (fun s => .int .i64 (d s)) (by omega) (fun r h => by have := hO r h; omega) s W W' row hs.2.2.2 hg hr⟩
theorem maxL_own {β : Type} {B : Nat} {O : Nat → Prop} (hB : 0 < B) (hO : ∀ r, O r → r ≠ 0) : OwnO B O (fun (_ : β) W => MaxL W) := fun s W W' row hs hg hr =>
  maxL_kept hs (hg.block _ (maxL_lt hs) (fun e => (hr _ e.symm).elim (fun h => absurd h.1 (by omega)) (fun h => hO _ h rfl)))
theorem four_new (w : World) : Four w.heap.size (((((w.alloc (.cells #[.int .i64 0] 3)).alloc (.cells #[.bool false] 4)).alloc (.cells #[.int .i64 0] 3)).alloc (.cells #[.int .i64 0] 3))) 0 0 := by
  have e1 := Boxed.new w 3 (.int .i64 0)
  have e2 := Boxed.new (w.alloc (.cells #[.int .i64 0] 3)) 4 (.bool false)
  have e3 := Boxed.new ((w.alloc (.cells #[.int .i64 0] 3)).alloc (.cells #[.bool false] 4)) 3 (.int .i64 0)
  have e4 := Boxed.new (((w.alloc (.cells #[.int .i64 0] 3)).alloc (.cells #[.bool false] 4)).alloc (.cells #[.int .i64 0] 3)) 3 (.int .i64 0)
  simp only [World.size_alloc] at e2 e3 e4
  exact ⟨((e1.alloc _).alloc _).alloc _, (e2.alloc _).alloc _, e3.alloc _, e4⟩
theorem field_cases (x : List UInt8) : ∃ nm vl fd, nm = (Lib.cut x [58]).1 ∧ vl = (Lib.cut x [58]).2.1 ∧ fd = (Lib.cut x [58]).2.2 ∧ nm.length ≤ x.length ∧ vl.length ≤ x.length ∧
    fieldF x = if fd = true ∧ nameF nm = true ∧ vl.all noLB = true then (if Lib.equalFold nm clName = true then (match digF (Lib.trimS vl [32, 9]) with | none => none | some n => some (some n)) else some none) else none :=
  ⟨_, _, _, rfl, rfl, rfl, (cut_len x _).1, (cut_len x _).2, rfl⟩
theorem Four.cells {g : Nat} {W : World} {c d : Int} (h : Four g W c d) : W.cell? ⟨g, 0, none⟩ = some (.int .i64 0) ∧ W.cell? ⟨g + 1, 0, none⟩ = some (.bool false) ∧ W.cell? ⟨g + 1 + 1, 0, none⟩ = some (.int .i64 c) ∧ W.cell? ⟨g + 1 + 1 + 1, 0, none⟩ = some (.int .i64 d) ∧
    W.frozen? ⟨g, 0, none⟩ = false ∧ W.frozen? ⟨g + 1, 0, none⟩ = false ∧ W.frozen? ⟨g + 1 + 1, 0, none⟩ = false ∧ W.frozen? ⟨g + 1 + 1 + 1, 0, none⟩ = false := ⟨h.1.cell, h.2.1.cell, h.2.2.1.cell, h.2.2.2.cell, h.1.frozen, h.2.1.frozen, h.2.2.1.frozen, h.2.2.2.frozen⟩
/-- the way out of a round at a line that is no field. -/
theorem bad_end {g : Nat} {w W W3 : World} {c d : Int} {pre : List (List UInt8)} {x : List UInt8} {p : Nat × Nat} (hg : g = w.heap.size) (hp : bodyF pre 0 0 = some p) (hx : fieldF x = none) (hb : Below w.heap.size w W) (hk : KeepsOthers W W3) (hb3 : Below w.heap.size W W3) (hf : Four g W3 c d) :
    KeepsOthers W ((W3.setCell ⟨g, 0, none⟩ (.int .i64 0)).setCell ⟨g + 1, 0, none⟩ (.bool false)) ∧ bodyF (pre ++ [x]) 0 0 = none ∧ Boxed ((W3.setCell ⟨g, 0, none⟩ (.int .i64 0)).setCell ⟨g + 1, 0, none⟩ (.bool false)) g 3 (.int .i64 0) ∧
      Boxed ((W3.setCell ⟨g, 0, none⟩ (.int .i64 0)).setCell ⟨g + 1, 0, none⟩ (.bool false)) (g + 1) 4 (.bool false) ∧ Below w.heap.size w ((W3.setCell ⟨g, 0, none⟩ (.int .i64 0)).setCell ⟨g + 1, 0, none⟩ (.bool false)) :=
  ⟨(hk.trans (KeepsOthers.setCell _ _ _)).trans (KeepsOthers.setCell _ _ _), by rw [bodyF_snoc (s' := p.1) (f' := p.2) hp, hx], boxed_other (hf.1.set _) _ (by omega), (boxed_other hf.2.1 _ (by omega)).set _,
   ((hb.trans hb3).setCell (p := ⟨g, 0, none⟩) (by show w.heap.size ≤ g; omega) _).setCell (p := ⟨g + 1, 0, none⟩) (by show w.heap.size ≤ g + 1; omega) _⟩
theorem trimS_len (l cs : List UInt8) : (Lib.trimS l cs).length ≤ l.length := by
  unfold Lib.trimS Lib.trimLeftS Lib.trimRightS
  have h1 := (List.dropWhile_sublist (cs.contains ·) (l := (l.reverse.dropWhile (cs.contains ·)).reverse)).length_le
  have h2 := (List.dropWhile_sublist (cs.contains ·) (l := l.reverse)).length_le
  simp only [List.length_reverse] at h1 h2 ⊢
  omega
/-- the way on behind a line that tells no length. -/
theorem ok_end {g : Nat} {w W W3 : World} {p : Nat × Nat} {pre : List (List UInt8)} {x : List UInt8} (hp : bodyF pre 0 0 = some p) (hx : fieldF x = some none) (hb : Below w.heap.size w W) (hb3 : Below W.heap.size W W3) (hf : Four g W3 p.1 p.2) (hm : MaxL W) (hg : g = w.heap.size) (hs : g + 1 + 1 + 1 + 1 + 1 ≤ W.heap.size) :
    KeepsOthers W W3 ∧ KpL (g + 1 + 1 + 1 + 1) W W3 ∧ ∃ p : Nat × Nat, bodyF (pre ++ [x]) 0 0 = some p ∧ Four g W3 p.1 p.2 ∧ MaxL W3 ∧ Below w.heap.size w W3 ∧ g + 1 + 1 + 1 + 1 + 1 ≤ W3.heap.size :=
  ⟨below_others hb3, ⟨hb3.block _ (by omega), hb3.block _ (maxL_lt hm)⟩, p, by rw [bodyF_snoc (s' := p.1) (f' := p.2) hp, hx], hf, maxL_below hm hb3 (maxL_lt hm), hb.trans (hb3.mono hb.size), Nat.le_trans hs hb3.size⟩
theorem ok_end2 {g : Nat} {w W W3 : World} {p : Nat × Nat} {pre : List (List UInt8)} {x : List UInt8} {k : Nat} (hp : bodyF pre 0 0 = some p) (hx : fieldF x = some (some k)) (hb : Below w.heap.size w W) (hb3 : Below W.heap.size W W3) (hf : Four g W3 p.1 p.2) (hm : MaxL W) (hg : g = w.heap.size) (hs : g + 1 + 1 + 1 + 1 + 1 ≤ W.heap.size) (hml : 0 < g) :
    KeepsOthers W ((W3.setCell ⟨g + 1 + 1, 0, none⟩ (.int .i64 (k : Nat))).setCell ⟨g + 1 + 1 + 1, 0, none⟩ (.int .i64 ((p.2 : Int) + 1))) ∧ KpL (g + 1 + 1 + 1 + 1) W ((W3.setCell ⟨g + 1 + 1, 0, none⟩ (.int .i64 (k : Nat))).setCell ⟨g + 1 + 1 + 1, 0, none⟩ (.int .i64 ((p.2 : Int) + 1))) ∧
      ∃ q : Nat × Nat, bodyF (pre ++ [x]) 0 0 = some q ∧ Four g ((W3.setCell ⟨g + 1 + 1, 0, none⟩ (.int .i64 (k : Nat))).setCell ⟨g + 1 + 1 + 1, 0, none⟩ (.int .i64 ((p.2 : Int) + 1))) q.1 q.2 ∧ MaxL ((W3.setCell ⟨g + 1 + 1, 0, none⟩ (.int .i64 (k : Nat))).setCell ⟨g + 1 + 1 + 1, 0, none⟩ (.int .i64 ((p.2 : Int) + 1))) ∧
      Below w.heap.size w ((W3.setCell ⟨g + 1 + 1, 0, none⟩ (.int .i64 (k : Nat))).setCell ⟨g + 1 + 1 + 1, 0, none⟩ (.int .i64 ((p.2 : Int) + 1))) ∧ g + 1 + 1 + 1 + 1 + 1 ≤ ((W3.setCell ⟨g + 1 + 1, 0, none⟩ (.int .i64 (k : Nat))).setCell ⟨g + 1 + 1 + 1, 0, none⟩ (.int .i64 ((p.2 : Int) + 1))).heap.size := by
  have h2 : ∀ (u v : Value) (j : Nat), j ≠ g + 1 + 1 → j ≠ g + 1 + 1 + 1 → ((W3.setCell ⟨g + 1 + 1, 0, none⟩ u).setCell ⟨g + 1 + 1 + 1, 0, none⟩ v).heap[j]? = W3.heap[j]? := fun u v j h1 h2 =>
    (Below.heap_setCell _ ⟨g + 1 + 1 + 1, 0, none⟩ v j h2).trans (Below.heap_setCell _ ⟨g + 1 + 1, 0, none⟩ u j h1)
  have h3 : ∀ (u v : Value), Below w.heap.size w ((W3.setCell ⟨g + 1 + 1, 0, none⟩ u).setCell ⟨g + 1 + 1 + 1, 0, none⟩ v) := fun u v =>
    ((hb.trans (hb3.mono hb.size)).setCell (p := ⟨g + 1 + 1, 0, none⟩) (by show w.heap.size ≤ g + 1 + 1; omega) _).setCell (p := ⟨g + 1 + 1 + 1, 0, none⟩) (by show w.heap.size ≤ g + 1 + 1 + 1; omega) _
  have hm3 := maxL_below hm hb3 (maxL_lt hm)
  refine ⟨((below_others hb3).trans (KeepsOthers.setCell _ _ _)).trans (KeepsOthers.setCell _ _ _), ⟨(h2 _ _ _ (by omega) (by omega)).trans (hb3.block _ (by omega)), (h2 _ _ _ (by omega) (by omega)).trans (hb3.block _ (maxL_lt hm))⟩, (k, p.2 + 1),
    by rw [bodyF_snoc (s' := p.1) (f' := p.2) hp, hx], ?_, maxL_kept hm3 (h2 _ _ _ (by omega) (by omega)), h3 _ _, ?_⟩
  · have h := (hf.setC (k : Nat)).setD ((p.2 : Int) + 1)
    have e : (((p.2 + 1 : Nat)) : Int) = (p.2 : Int) + 1 := by omega
    show Four g _ ((k : Nat) : Int) ((p.2 + 1 : Nat) : Int)
    rw [e]
    exact h
  · have := hb3.size
    have e : ∀ (a : Addr) (u : Value) (W : World), (W.setCell a u).heap.size = W.heap.size := fun a u W => by simp [World.setCell]
    rw [e, e]
    omega
def bodyR (h : List UInt8) : Array Value := match bodyF (linesF h) 0 0 with | none => #[.int .i64 0, .bool false] | some (s, f) => #[.int .i64 s, .bool (decide (f = 1))]
def BodyPost (h : List UInt8) (w : World) (e : Ending) (w' : World) : Prop := e = .returned (.tuple (bodyR h)) ∧ Below w.heap.size w w'
set_option maxHeartbeats 2000000 in
theorem body_in (n : Nat) (hn : 3 ≤ n) (s : ByteArray) (w : World) (hs : s.size < 4294967281) (hM : MaxL w) :
    CallsIn Fence.wide n Tryd.prog 31 #[.string s] w (BodyPost s.data.toList w) := by
  have h1 : 1 ≤ n := by omega
  have hML := maxL_lt hM
  refine callsIn_of_wp_marks Tryd.func31 rfl trivial ?_ rfl
  simp only [Tryd.ntmps31, List.size_toArray, List.length_cons, List.length_nil, Nat.reduceAdd, Nat.reduceSub, Array.replicate_succ, Array.replicate_zero, List.push_toArray, List.append_toArray, List.nil_append, List.cons_append]
  gi_wp2
  refine ⟨trivial, ?_⟩
  gi_at_call 37
  refine (callsIn_wide.2 (lines_make s _)).mono ?_
  rintro e w2 ⟨rfl, rfl⟩
  have HF0 := Lib.hid (four_new w)
  have HB0 := Lib.hid (show Below w.heap.size w (((((w.alloc (.cells #[.int .i64 0] 3)).alloc (.cells #[.bool false] 4)).alloc (.cells #[.int .i64 0] 3)).alloc (.cells #[.int .i64 0] 3))) from
    ((((Below.refl _ w).alloc (Nat.le_refl _) _).alloc (by simp) _).alloc (by simp; omega) _).alloc (by simp; omega) _)
  have hs0 : (((((w.alloc (.cells #[.int .i64 0] 3)).alloc (.cells #[.bool false] 4)).alloc (.cells #[.int .i64 0] 3)).alloc (.cells #[.int .i64 0] 3))).heap.size = w.heap.size + 1 + 1 + 1 + 1 := by simp
  gi_wp2
  obtain ⟨w1, hw1⟩ : ∃ w1, w1 = ((((w.alloc (.cells #[.int .i64 0] 3)).alloc (.cells #[.bool false] 4)).alloc (.cells #[.int .i64 0] 3)).alloc (.cells #[.int .i64 0] 3)) := ⟨_, rfl⟩
  rw [← hw1] at HF0 HB0 hs0 ⊢
  clear hw1
  obtain ⟨g, hg⟩ : ∃ g, g = w.heap.size := ⟨_, rfl⟩
  rw [← hg] at HF0 hs0 ⊢
  have HM1 := Lib.hid (maxL_below hM HB0.out hML)
  have hA1 := (Below.refl w1.heap.size w1).alloc (Nat.le_refl _) (.cells #[.string s] 9)
  have hB2 := HB0.out.alloc (by rw [← hg]; omega) (.cells #[.string s] 9)
  have hM2 := maxL_below hM hB2 hML
  have hbn := Boxed.new w1 9 (.string s)
  rw [hs0] at hbn
  have hsz2 : (w1.alloc (.cells #[.string s] 9)).heap.size = g + 1 + 1 + 1 + 1 + 1 := by simp [hs0]
  have HG := Lib.hid hg
  have hgm : 0 < g := by rw [hg]; exact hML
  have hs22 := Lib.hid hsz2
  clear hg hs0 hA1
  refine wpIn_rangeFunc_O rfl (by omega) (gf := 51) (lb := #[.pointer (some ⟨g + 1 + 1 + 1 + 1, 0, none⟩)]) rfl trivial (enters_of Tryd.func51 (by kernel_rfl) rfl)
    (O := fun r => r = g + 1 + 1 + 1 + 1) (fun r h => by rw [hsz2, h]; omega)
    (lines_seq (n - 1) (by omega) (g + 1 + 1 + 1 + 1) s _ (by omega) (by rw [hsz2]; omega) hbn hM2 hs)
    (fun h k => ⟨k.1.trans h.1, k.2.trans h.2⟩) (fun W l o o' h1 h2 h3 h4 => ⟨World.putObj_heap_other (by omega), World.putObj_heap_other (by omega)⟩) (Below.refl _ _) (fun _ => rfl)
    (fun pre W => ∃ p : Nat × Nat, bodyF pre 0 0 = some p ∧ Four g W p.1 p.2 ∧ MaxL W ∧ Below w.heap.size w W ∧ g + 1 + 1 + 1 + 1 + 1 ≤ W.heap.size)
    (fun c pre W => c = .ret ∧ bodyF pre 0 0 = none ∧ Boxed W g 3 (.int .i64 0) ∧ Boxed W (g + 1) 4 (.bool false) ∧ Below w.heap.size w W)
    ?ownI ?ownX ⟨(0, 0), rfl, HF0.out.below ((Below.refl w1.heap.size w1).alloc (Nat.le_refl _) (.cells #[.string s] 9)), hM2, hB2, Nat.le_of_eq hsz2.symm⟩
    (fun x => { tmps := #[.string s, undef, .pointer (some ⟨g, 0, none⟩), .pointer (some ⟨g + 1, 0, none⟩), .pointer (some ⟨g + 1 + 1, 0, none⟩), .pointer (some ⟨g + 1 + 1 + 1, 0, none⟩), .string (bs x), undef, undef, undef, .string s,
      .func (.func 51) #[] #[.pointer (some ⟨g + 1 + 1 + 1 + 1, 0, none⟩)], .string (bs x),
      undef, undef, undef, undef, undef, undef, undef, undef, undef, undef, undef, undef, undef, undef, undef, undef, undef, undef, undef, undef, undef, undef, undef, undef, undef, undef, undef, undef, undef, undef, undef, undef], defers := [] }) ?assign ?body ?done ?stop
  case ownI =>
    rintro pre A B row ⟨p, hp, hf, hm, hb, hsz⟩ hg' hr
    have hgw := HG.out
    rw [hsz2] at hr
    exact ⟨p, hp, Four.own (β := Unit) (fun _ => p.1) (fun _ => p.2) (by omega) (fun r h => by omega) () A B row hf hg' hr, maxL_own (β := Unit) (by omega) (fun r h => by omega) () A B row hm hg' hr, ownO_below (β := Unit) (Nat.le_refl _) (by omega) (fun r h => by omega) () A B row hb hg' hr, Nat.le_trans hsz hg'.size⟩
  case ownX =>
    rintro c pre A B row ⟨hc, hp, hf1, hf2, hb⟩ hg' hr
    have hgw := HG.out
    rw [hsz2] at hr
    exact ⟨hc, hp, ownO_boxed (β := Unit) (fun _ => .int .i64 0) (by omega) (fun r h => by omega) () A B row hf1 hg' hr, ownO_boxed (β := Unit) (fun _ => .bool false) (by omega) (fun r h => by omega) () A B row hf2 hg' hr, ownO_below (β := Unit) (Nat.le_refl _) (by omega) (fun r h => by omega) () A B row hb hg' hr⟩
  case assign =>
    clear hbn hM2 hB2 hsz2
    intro l x W K hK
    dsimp only [lEnc]
    gi_wp2
    exact hK
  case body =>
    clear hbn hM2 hB2 hsz2
    rintro l pre x W ⟨⟨a, b⟩, hp, hf, hm, hb, hsz⟩ hlen
    have HSZ := Lib.hid hsz
    have hbb : b < 4294967281 := by
      have h1 := (bodyF_le pre 0 0 a b hp).1
      have h2 := hlen.length_le
      have h3 := linesN_len s.data.toList.length s.data.toList
      have h4 : s.data.toList.length = s.size := by simp
      rw [List.length_append] at h2
      unfold linesF at h2
      omega
    clear hsz
    obtain ⟨nm, vl, fd, hnm, hvl, hfd, hl1, hl2, hfld⟩ := field_cases x
    have hxs : x.length < 4294967281 := by
      have h : x ∈ linesF s.data.toList := by
        obtain ⟨t, ht⟩ := hlen
        rw [← ht]
        simp
      have h2 := linesN_mem _ _ x h
      have h3 : s.data.toList.length = s.size := by simp
      omega
    have HCUT : RowKit.Hid (Calls Tryd.prog 38 #[.string (bs x), .string ⟨#[58]⟩] W fun e w' => e = .returned (.tuple #[.string (bs nm), .string (bs vl), .bool fd]) ∧ ∃ n, w' = W.drewN n) := by
      have h := cut_any (bs x) ⟨#[58]⟩ (by rw [bs_size]; exact hxs) W hm
      rw [bs_list] at h
      rw [hnm, hvl, hfd]
      exact h
    have HP := Lib.hid hp
    have HFD := Lib.hid hfld
    have HBB := Lib.hid hb
    have HM := Lib.hid hm
    have HF := Lib.hid hf
    clear hnm hvl hfd hp hfld hb hm hf hlen
    gi_wp2
    refine ⟨trivial, fun _ => by omega, ?_⟩
    gi_at_call 38
    refine (CallsIn.inRound l (callsIn_wide.2 HCUT.out)).mono ?_
    rintro e w3 ⟨rfl, q, rfl⟩
    obtain ⟨W3, hW3⟩ : ∃ W3, W3 = W.drewN q := ⟨_, rfl⟩
    have HB3 := Lib.hid (show Below W.heap.size W W3 by rw [hW3]; exact below_drewN (Below.refl _ _) q)
    have HF3 := Lib.hid (HF.out.below HB3.out)
    have hgW := Lib.hid (show g + 4 ≤ W.heap.size from by have := HF.out.2.2.2.lt; omega)
    rw [← hW3]
    clear hW3
    cases fd
    · have HBE := Lib.hid (bad_end (w := w) (W := W) HG.out HP.out (by rw [HFD.out, if_neg (by simp)]) HBB.out (below_others HB3.out) (HB3.out.mono HBB.out.size) HF3.out)
      obtain ⟨hc0, hc1, hc2, hc3, hz0, hz1, hz2, hz3⟩ := HF3.out.cells
      clear HCUT
      gi_wp2
      refine ⟨trivial, ?_⟩
      gi_wp2
      refine ⟨trivial, ?_⟩
      gi_wp2
      exact ⟨HBE.out.1, rfl, HBE.out.2⟩
    · have HISN : RowKit.Hid (Calls Tryd.prog 39 #[.string (bs nm)] W3 fun e w' => e = .returned (.bool (nameF nm)) ∧ W3 = w') := by
        have h := isName_any (bs nm) W3 (by rw [bs_size]; omega)
        rwa [bs_list] at h
      cases hn : nameF nm
      · rw [hn] at HISN
        have HBE := Lib.hid (bad_end (w := w) (W := W) HG.out HP.out (by rw [HFD.out, hn, if_neg (by simp)]) HBB.out (below_others HB3.out) (HB3.out.mono HBB.out.size) HF3.out)
        obtain ⟨hc0, hc1, hc2, hc3, hz0, hz1, hz2, hz3⟩ := HF3.out.cells
        clear HCUT hn
        gi_wp2
        refine ⟨trivial, fun _ => by omega, ?_⟩
        gi_at_call 39
        refine (CallsIn.inRound l (callsIn_wide.2 HISN.out)).mono ?_
        rintro e w4 ⟨rfl, rfl⟩
        gi_wp2
        refine ⟨trivial, ?_⟩
        gi_wp2
        exact ⟨HBE.out.1, rfl, HBE.out.2⟩
      · rw [hn] at HISN
        have HCA : RowKit.Hid (Calls Tryd.prog 40 #[.string (bs vl), .string ⟨#[13, 10]⟩] W3 fun e w' => e = .returned (.bool (!(vl.all noLB))) ∧ Below W3.heap.size W3 w') := by
          have h := containsAny_any (bs vl) W3 (by rw [bs_size]; omega)
          rwa [bs_list] at h
        gi_wp2
        refine ⟨trivial, fun _ => by omega, ?_⟩
        gi_at_call 39
        refine (CallsIn.inRound l (callsIn_wide.2 HISN.out)).mono ?_
        rintro e w4 ⟨rfl, rfl⟩
        cases hl : vl.all noLB
        · rw [hl] at HCA
          gi_wp2
          refine ⟨trivial, fun _ => by omega, ?_⟩
          gi_at_call 40
          refine (CallsIn.inRound l (callsIn_wide.2 HCA.out)).mono ?_
          rintro e W4 ⟨rfl, hb4⟩
          have HB4 := Lib.hid (HB3.out.trans (hb4.mono HB3.out.size))
          have HF4 := Lib.hid (HF3.out.below hb4)
          have HBE := Lib.hid (bad_end (w := w) (W := W) HG.out HP.out (by rw [HFD.out, hl, if_neg (by simp)]) HBB.out (below_others HB4.out) (HB4.out.mono HBB.out.size) HF4.out)
          obtain ⟨hc0, hc1, hc2, hc3, hz0, hz1, hz2, hz3⟩ := HF4.out.cells
          clear HCUT hl hn hb4
          gi_wp2
          exact ⟨HBE.out.1, rfl, HBE.out.2⟩
        · rw [hl] at HCA
          gi_wp2
          refine ⟨trivial, fun _ => by omega, ?_⟩
          gi_at_call 40
          refine (CallsIn.inRound l (callsIn_wide.2 HCA.out)).mono ?_
          rintro e W4 ⟨rfl, hb4⟩
          have HB4 := Lib.hid (HB3.out.trans (hb4.mono HB3.out.size))
          have HF4 := Lib.hid (HF3.out.below hb4)
          have HFD2 := Lib.hid (show fieldF x = (if Lib.equalFold nm clName = true then (match digF (Lib.trimS vl [32, 9]) with | none => none | some n => some (some n)) else some none) by rw [HFD.out, if_pos ⟨by first | rfl | trivial, hn, hl⟩])
          have HEF : RowKit.Hid (Calls Tryd.prog 41 #[.string (bs nm), .string ⟨#[99, 111, 110, 116, 101, 110, 116, 45, 108, 101, 110, 103, 116, 104]⟩] W4 fun e w' => e = .returned (.bool (Lib.equalFold nm clName)) ∧ W4 = w') := by
            have h := Any.strings_EqualFold Tryd.lays164 (bs nm) ⟨#[99, 111, 110, 116, 101, 110, 116, 45, 108, 101, 110, 103, 116, 104]⟩ W4 (by rw [bs_size]; omega) (by rw [bs_list]; exact nameF_ascii hn) (ascii_of_all (by decide))
            rw [bs_list] at h
            exact h.mono fun e w' ⟨h1, h2⟩ => ⟨h1, h2.symm⟩
          clear HCUT hl hn hb4
          cases he : Lib.equalFold nm clName
          · rw [he] at HEF
            have HOK := Lib.hid (ok_end (w := w) (W := W) HP.out (by rw [HFD2.out, he]; rfl) HBB.out HB4.out HF4.out HM.out HG.out HSZ.out)
            gi_wp2
            refine ⟨trivial, fun _ => by omega, ?_⟩
            gi_at_call 41
            refine (CallsIn.inRound l (callsIn_wide.2 HEF.out)).mono ?_
            rintro e w5 ⟨rfl, rfl⟩
            gi_wp2
            exact HOK.out
          · rw [he] at HEF
            obtain ⟨tv, htv⟩ : ∃ tv, tv = Lib.trimS vl [32, 9] := ⟨_, rfl⟩
            have htl : tv.length ≤ vl.length := by rw [htv]; exact trimS_len _ _
            have HTR : RowKit.Hid (Calls Tryd.prog 43 #[.string (bs vl), .string ⟨#[32, 9]⟩] W4 fun e w' => e = .returned (.string (bs tv)) ∧ Below W4.heap.size W4 w') := by
              have h := Any.strings_Trim_laid Tryd.lays160 (by kernel_rfl) (bs vl) ⟨#[32, 9]⟩ W4 (by rw [bs_size]; omega) (by decide) (ascii_of_all (by decide))
              rw [bs_list] at h
              rw [htv]
              exact h
            rw [he, ← htv] at HFD2
            gi_wp2
            refine ⟨trivial, fun _ => by omega, ?_⟩
            gi_at_call 41
            refine (CallsIn.inRound l (callsIn_wide.2 HEF.out)).mono ?_
            rintro e w5 ⟨rfl, rfl⟩
            gi_wp2
            refine ⟨trivial, fun _ => by omega, ?_⟩
            gi_at_call 43
            refine (CallsIn.inRound l (callsIn_wide.2 HTR.out)).mono ?_
            rintro e W5 ⟨rfl, hb5⟩
            have HB5 := Lib.hid (HB4.out.trans (hb5.mono HB4.out.size))
            have HF5 := Lib.hid (HF4.out.below hb5)
            obtain ⟨hc0, hc1, hc2, hc3, hz0, hz1, hz2, hz3⟩ := HF5.out.cells
            have HDG := digits_any (bs tv) W5 (by rw [bs_size]; omega)
            rw [bs_list] at HDG
            unfold digPost at HDG
            clear htv hb5 he
            cases hd : digF tv
            · rw [hd] at HDG HFD2
              have HDG : RowKit.Hid (Calls Tryd.prog 42 #[.string (bs tv)] W5 fun e w' => e = .returned (.tuple #[.int .i64 0, .bool false]) ∧ W5 = w') := HDG
              have HBE := Lib.hid (bad_end (w := w) (W := W) HG.out HP.out (by rw [HFD2.out]; rfl) HBB.out ((below_others HB5.out).trans (KeepsOthers.setCell _ ⟨g + 1 + 1, 0, none⟩ (.int .i64 0))) ((HB5.out.mono HBB.out.size).setCell (p := ⟨g + 1 + 1, 0, none⟩) (by have := HG.out; show w.heap.size ≤ g + 1 + 1; omega) _) (HF5.out.setC 0))
              obtain ⟨kc0, kc1, kc2, kc3, kz0, kz1, kz2, kz3⟩ := (HF5.out.setC 0).cells
              gi_wp2
              refine ⟨trivial, fun _ => by omega, ?_⟩
              gi_at_call 42
              refine (CallsIn.inRound l (callsIn_wide.2 HDG.out)).mono ?_
              rintro e w6 ⟨rfl, rfl⟩
              gi_wp2
              exact ⟨HBE.out.1, rfl, HBE.out.2⟩
            · rename_i k
              rw [hd] at HDG HFD2
              have HDG : RowKit.Hid (Calls Tryd.prog 42 #[.string (bs tv)] W5 fun e w' => e = .returned (.tuple #[.int .i64 (k : Nat), .bool true]) ∧ W5 = w') := HDG
              have HOK := Lib.hid (ok_end2 (w := w) (W := W) (k := k) HP.out (by rw [HFD2.out]; rfl) HBB.out HB5.out HF5.out HM.out HG.out HSZ.out hgm)
              obtain ⟨kc0, kc1, kc2, kc3, kz0, kz1, kz2, kz3⟩ := (HF5.out.setC k).cells
              gi_wp2
              refine ⟨trivial, fun _ => by omega, ?_⟩
              gi_at_call 42
              refine (CallsIn.inRound l (callsIn_wide.2 HDG.out)).mono ?_
              rintro e w6 ⟨rfl, rfl⟩
              gi_wp2
              exact HOK.out
  case done =>
    clear hbn hM2 hB2 hsz2
    rintro D ys W hD rfl ⟨⟨a, b⟩, hp, hf, hm, hb, hsz⟩ hK
    dsimp only at hf
    obtain ⟨hc0, hc1, hc2, hc3, hz0, hz1, hz2, hz3⟩ := hf.cells
    have hmix : Tryd.prog.follows .mixedOrders = true := by kernel_rfl
    have HP := Lib.hid hp
    have HBB := Lib.hid hb
    have HM := Lib.hid hm
    have HF := Lib.hid hf
    have HD := Lib.hid hD
    clear hp hb hm hf hD
    gi_wp2
    gi_region
    gi_wp2
    have hgw := HG.out
    have hsz := hs22.out
    have hD := HD.out
    obtain ⟨W', hW'⟩ : ∃ W', W' = ((W.setCell ⟨g, 0, none⟩ (.int .i64 (a : Nat))).setCell ⟨g + 1, 0, none⟩ (.bool ((b : Int) == 1))).drew := ⟨_, rfl⟩
    have hK' : W'.heap[D]? = some (.deferred (some [])) := by
      rw [hW']
      exact ((KeepsOthers.setCell W ⟨g, 0, none⟩ (.int .i64 (a : Nat))).trans (KeepsOthers.setCell _ ⟨g + 1, 0, none⟩ (.bool ((b : Int) == 1)))).same D _ hK rfl
    have d1 : Boxed W' g 3 (.int .i64 (a : Nat)) := by
      rw [hW']
      exact boxed_other (HF.out.1.set _) _ (by omega)
    have d2 : Boxed W' (g + 1) 4 (.bool ((b : Int) == 1)) := by
      rw [hW']
      exact (boxed_other HF.out.2.1 _ (by omega)).set _
    have hBW : Below w.heap.size w W' := by
      rw [hW']
      exact ((HBB.out.setCell (p := ⟨g, 0, none⟩) (by show w.heap.size ≤ g; omega) _).setCell (p := ⟨g + 1, 0, none⟩) (by show w.heap.size ≤ g + 1; omega) _).drew
    rw [← hW']
    clear hW'
    obtain ⟨c1, c2⟩ : (W'.putObj D (.deferred none)).cell? ⟨g, 0, none⟩ = some (.int .i64 (a : Nat)) ∧ (W'.putObj D (.deferred none)).cell? ⟨g + 1, 0, none⟩ = some (.bool ((b : Int) == 1)) :=
      ⟨cell_kept d1.cell (grownBy_putObj' _ D (.deferred none)) (fun r e => by cases e; exact ⟨_, hK', rfl⟩), cell_kept d2.cell (grownBy_putObj' _ D (.deferred none)) (fun r e => by cases e; exact ⟨_, hK', rfl⟩)⟩
    have hbe : ((b : Int) == 1) = decide (b = 1) := by
      by_cases h : b = 1
      · subst h; rfl
      · rw [decide_eq_false h, beq_eq_false_iff_ne]
        omega
    refine ⟨by simp, .inl ⟨_, _, rfl, run_takeDeferred hK', ?_⟩⟩
    refine ⟨.tuple #[.int .i64 (a : Nat), .bool (decide (b = 1))], ?_, by unfold bodyR; rw [HP.out], hBW.trans (belowK_b (w := w) (Nat.le_refl _) W' D _ _ (by omega) hK' rfl rfl)⟩
    rw [← hbe]
    simp [results, Tryd.f31, go_sem, c1, c2]
  case stop =>
    clear hbn hM2 hB2 hsz2
    rintro D c pre W hD hpre ⟨rfl, hp, hf1, hf2, hb⟩ hK
    have hgw := HG.out
    have hsz := hs22.out
    gi_wp2
    obtain ⟨c1, c2⟩ : (W.putObj D (.deferred none)).cell? ⟨g, 0, none⟩ = some (.int .i64 0) ∧ (W.putObj D (.deferred none)).cell? ⟨g + 1, 0, none⟩ = some (.bool false) :=
      ⟨cell_kept hf1.cell (grownBy_putObj' _ D (.deferred none)) (fun r e => by cases e; exact ⟨_, hK, rfl⟩), cell_kept hf2.cell (grownBy_putObj' _ D (.deferred none)) (fun r e => by cases e; exact ⟨_, hK, rfl⟩)⟩
    refine ⟨by simp, .inl ⟨_, _, rfl, run_takeDeferred hK, ?_⟩⟩
    obtain ⟨t, ht⟩ := hpre
    refine ⟨.tuple #[.int .i64 0, .bool false], ?_, by unfold bodyR; rw [← ht, bodyF_none hp], hb.trans (belowK_b (w := w) (Nat.le_refl _) W D _ _ (by omega) hK rfl rfl)⟩
    simp [results, Tryd.f31, go_sem, c1, c2]
theorem bodySize_any (s : ByteArray) (w : World) (hs : s.size < 4294967281) (hM : MaxL w) : Calls Tryd.prog 31 #[.string s] w (BodyPost s.data.toList w) :=
  callsIn_wide.1 (body_in 3 (by omega) s w hs hM)
end Go.Proofs.YtphnplpgeoleeaaDoor
