/- An argument that is a slice of cuts, opened. -/
import Derived.Test.YtnmebingjpnlgaaArgT
namespace Go.Proofs.Ytnmebingjpnlgaa
open Go.RowKit Go.Lib Go.ChangeShapes Go.WideShapes Go.Deep
set_option maxRecDepth 100000
set_option linter.unusedVariables false
set_option linter.unusedSectionVars false

/-- a cut. -/
structure CT where
  a : Int
  b : Int
  m : ByteArray
def ctCells (t : CT) : List Value := [.int .i64 t.a, .int .i64 t.b, .string t.m]
def ctsCells (ts : List CT) : List Value := ts.flatMap ctCells
theorem cts_len (ts : List CT) : (ctsCells ts).length = ts.length * 3 := by
  induction ts with
  | nil => rfl
  | cons t ts ih =>
    simp only [ctsCells, List.flatMap_cons, List.length_append, List.length_cons] at ih ⊢
    rw [ih]
    simp [ctCells]
    omega
theorem cts_get : ∀ (ts : List CT) (k : Nat) (h : k < ts.length), (ctsCells ts)[k * 3]? = some (.int .i64 ts[k].a) ∧ (ctsCells ts)[k * 3 + 1]? = some (.int .i64 ts[k].b) ∧ (ctsCells ts)[k * 3 + 2]? = some (.string ts[k].m)
  | t :: ts, 0, _ => ⟨rfl, rfl, rfl⟩
  | t :: ts, k + 1, h => by
    have := cts_get ts k (by simpa using h)
    simp only [ctsCells, List.flatMap_cons, List.getElem_cons_succ] at this ⊢
    have e : (ctCells t).length = 3 := rfl
    refine ⟨?_, ?_, ?_⟩
    · rw [List.getElem?_append_right (by omega), e, show (k + 1) * 3 - 3 = k * 3 by omega]; exact this.1
    · rw [List.getElem?_append_right (by omega), e, show (k + 1) * 3 + 1 - 3 = k * 3 + 1 by omega]; exact this.2.1
    · rw [List.getElem?_append_right (by omega), e, show (k + 1) * 3 + 2 - 3 = k * 3 + 2 by omega]; exact this.2.2
theorem rd_ct {w : World} {g o n : Nat} {ts : List CT} (hr : ∀ j, j < n * 3 → w.cell? ⟨g, o + j, none⟩ = (ctsCells ts)[j]?) (hn : n = ts.length) {k : Nat} (h : k < n) :
    ∃ t, ts[k]? = some t ∧ w.cell? ⟨g, o + k * 3, none⟩ = some (.int .i64 t.a) ∧ w.cell? ⟨g, o + k * 3 + 1, none⟩ = some (.int .i64 t.b) ∧ w.cell? ⟨g, o + k * 3 + 2, none⟩ = some (.string t.m) := by
  subst hn
  obtain ⟨h0, h1, h2⟩ := cts_get ts k h
  refine ⟨ts[k], List.getElem?_eq_getElem h, ?_, ?_, ?_⟩
  · rw [hr _ (by omega)]; exact h0
  · rw [Nat.add_assoc, hr _ (by omega)]; exact h1
  · rw [Nat.add_assoc, hr _ (by omega)]; exact h2
/-- a slice that came in and reads as these cuts. -/
def ArgC (w : World) (v : Value) (ts : List CT) : Prop := (Rd w w.heap.size 3 v ts.length (ctsCells ts) ∧ (v = .slice none 0 0 ∨ ∃ a c, v = .slice (some a) ts.length c)) ∧ ∀ t ∈ ts, t.m.size ≤ maxLen
theorem cutFields : ∃ f0 f1 f2 : Field, Try.prog.underlying 39 = some (.struct #[f0, f1, f2]) ∧ (f0.type = 3 ∧ f0.offset = 0) ∧ (f1.type = 3 ∧ f1.offset = 1) ∧ (f2.type = 9 ∧ f2.offset = 2) :=
  ⟨_, _, _, Try.underlying39, ⟨rfl, rfl⟩, ⟨rfl, rfl⟩, ⟨rfl, rfl⟩⟩
section
variable {H : Type} {enc : TypeId × Value → H} {W : World} {base : Nat} {spare : Nat → Bool} {held : Bool}
theorem open_cuts {r : Reach} {b0 : Nat} {v : Value} {d : DataW H} {p : List MemPlace} (hv : Value.okWide Try.prog W r b0 37 v) (h : DataW.Trod enc Try.prog W base spare held 37 v d p) : ∃ ts, ArgC W v ts := by
  obtain ⟨a, len, cap, rfl⟩ := okWide_slice Try.underlying37 hv
  obtain ⟨fuel, hf⟩ := h
  have hc3 : Try.prog.cellsOf 39 = 3 := by kernel_rfl
  have hc1 : Try.prog.cellsOf 3 = 1 := by kernel_rfl
  have hc2 : Try.prog.cellsOf 9 = 1 := by kernel_rfl
  obtain ⟨f0, f1, f2, hst, ⟨t0, o0⟩, ⟨t1, o1⟩, t2, o2⟩ := cutFields
  rcases open_slice Try.underlying37 hf with ⟨hcs, _⟩ | ⟨ad, len', cap', m, n, D, Pl, hcs, hb, hl, hm, hmm, hx, hi⟩
  · simp [Value.cells] at hcs
    obtain ⟨rfl, rfl, rfl⟩ := hcs
    exact ⟨[], ⟨Rd.nil _ _ _ _ _, .inl rfl⟩, fun _ h => by simp at h⟩
  · simp [Value.cells] at hcs
    obtain ⟨rfl, rfl, rfl⟩ := hcs
    obtain ⟨ts, htl, hts⟩ := list_of (p := fun i (t : CT) => W.cell? (ad.add (i * 3)) = some (.int .i64 t.a) ∧ W.cell? (ad.add (i * 3 + 1)) = some (.int .i64 t.b) ∧ W.cell? (ad.add (i * 3 + 2)) = some (.string t.m) ∧ t.m.size ≤ maxLen) len fun i hil => by
      obtain ⟨cs', hcs', htr⟩ := hi i (by rw [hmm]; split <;> omega)
      rw [hc3] at hcs'
      obtain ⟨_, hcl, hat⟩ := World.cells?_some hcs'
      match cs', hcl with
      | [x0, x1, x2], _ =>
        obtain ⟨y0, y1, y2, n', _, _, h0, h1, h2⟩ := trod_struct3 hst htr
        simp only [t0, o0, t1, o1, t2, o2, hc1, hc2, List.drop_zero, List.take_succ_cons, List.take_zero, List.drop_succ_cons] at h0 h1 h2
        obtain ⟨z0, e0, _⟩ := DataW.trod_int Try.underlying3 h0
        obtain ⟨z1, e1, _⟩ := DataW.trod_int Try.underlying3 h1
        obtain ⟨z2, e2, _, hz2⟩ := DataW.trod_string Try.underlying9 h2
        simp only [List.cons.injEq, and_true] at e0 e1 e2
        refine ⟨⟨z0, z1, z2⟩, ?_, ?_, ?_, hz2⟩
        · have := hat 0 (by omega)
          rw [Go.Deep.add_add, Nat.add_zero] at this
          rw [this, ← e0]; rfl
        · have := hat 1 (by omega)
          rw [Go.Deep.add_add] at this
          rw [this, ← e1]; rfl
        · have := hat 2 (by omega)
          rw [Go.Deep.add_add] at this
          rw [this, ← e2]; rfl
    refine ⟨ts, ⟨⟨cts_len ts, some ad, cap, by rw [htl], by omega, fun hpos => ?_⟩, .inr ⟨ad, cap, by rw [htl]⟩⟩, fun t ht => by
      obtain ⟨i, hi, rfl⟩ := List.getElem_of_mem ht
      exact (hts i _ (List.getElem?_eq_getElem hi)).2.2.2⟩
    obtain ⟨b, o, s⟩ := ad
    have h0 := (hts 0 ts[0] (List.getElem?_eq_getElem hpos)).1
    have hs : s = none := by
      cases s with
      | none => rfl
      | some s =>
        exfalso
        unfold World.cell? at h0
        split at h0
        · simp [Addr.add] at h0
        · cases h0
    subst hs
    have hblt : b < W.heap.size := by
      rcases Nat.lt_or_ge b W.heap.size with h | h
      · exact h
      · exfalso
        unfold World.cell? at h0
        rw [show (Addr.add ⟨b, o, none⟩ (0 * 3)).block = b from rfl, Array.getElem?_eq_none h] at h0
        cases h0
    refine ⟨b, o, rfl, hblt, fun j hj => ?_⟩
    have hk : j / 3 < ts.length := by omega
    obtain ⟨a0, a1, a2, _⟩ := hts (j / 3) ts[j / 3] (List.getElem?_eq_getElem hk)
    obtain ⟨b0, b1, b2⟩ := cts_get ts (j / 3) hk
    have hadd : ∀ i, (Addr.add ⟨b, o, none⟩ i) = ⟨b, o + i, none⟩ := fun i => by simp [Addr.add]
    rw [hadd] at a0 a1 a2
    have hj3 : j = j / 3 * 3 + j % 3 := by omega
    have hr : j % 3 = 0 ∨ j % 3 = 1 ∨ j % 3 = 2 := by omega
    rcases hr with hr | hr | hr <;> rw [hr] at hj3 <;> rw [hj3]
    · rw [Nat.add_zero, a0, b0]
    · rw [a1, b1]
    · rw [a2, b2]
end
end Go.Proofs.Ytnmebingjpnlgaa
