/- An argument that is a slice of tokens, opened. -/
import Derived.Test.YtnmebingjpnlgaaSpaA
import Derived.Deep.Slices
import Derived.Deep.Strs
import Derived.WideShapes
import Derived.ChangeArms
import Derived.ChangeSame
namespace Go.Proofs.Ytnmebingjpnlgaa
open Go.RowKit Go.Lib Go.ChangeShapes Go.WideShapes Go.Deep
set_option maxRecDepth 100000
set_option linter.unusedVariables false
set_option linter.unusedSectionVars false

/-- a slice that came in and reads as these tokens. -/
def ArgT (w : World) (v : Value) (ts : List IT) : Prop := Rd w w.heap.size 3 v ts.length (itsCells ts) ∧ (v = .slice none 0 0 ∨ ∃ a c, v = .slice (some a) ts.length c)
theorem list_of {α : Type} {p : Nat → α → Prop} : ∀ (n : Nat), (∀ i, i < n → ∃ x, p i x) → ∃ l : List α, l.length = n ∧ ∀ (i : Nat) (x : α), l[i]? = some x → p i x
  | 0, _ => ⟨[], rfl, fun i x h => by simp at h⟩
  | n + 1, h => by
    obtain ⟨l, hl, hp⟩ := list_of n fun i hi => h i (by omega)
    obtain ⟨x, hx⟩ := h n (by omega)
    refine ⟨l ++ [x], by simp [hl], fun i y hy => ?_⟩
    rcases Nat.lt_or_ge i n with hi | hi
    · rw [List.getElem?_append_left (by omega)] at hy
      exact hp i y hy
    · rw [List.getElem?_append_right (by omega)] at hy
      have hj : i - l.length = 0 := by
        rcases Nat.eq_zero_or_pos (i - l.length) with h0 | h0
        · exact h0
        · rw [List.getElem?_eq_none (by simp; omega)] at hy; cases hy
      rw [hj] at hy
      obtain rfl : x = y := by simpa using hy
      obtain rfl : i = n := by omega
      exact hx
theorem tokFields : ∃ f0 f1 f2 : Field, Try.prog.underlying 27 = some (.struct #[f0, f1, f2]) ∧ (f0.type = 3 ∧ f0.offset = 0) ∧ (f1.type = 3 ∧ f1.offset = 1) ∧ (f2.type = 3 ∧ f2.offset = 2) :=
  ⟨_, _, _, Try.underlying27, ⟨rfl, rfl⟩, ⟨rfl, rfl⟩, ⟨rfl, rfl⟩⟩
section
variable {H : Type} {enc : TypeId × Value → H} {W : World} {base : Nat} {spare : Nat → Bool} {held : Bool}
theorem open_toks {r : Reach} {b0 : Nat} {v : Value} {d : DataW H} {p : List MemPlace} (hv : Value.okWide Try.prog W r b0 23 v) (h : DataW.Trod enc Try.prog W base spare held 23 v d p) : ∃ ts, ArgT W v ts := by
  obtain ⟨a, len, cap, rfl⟩ := okWide_slice Try.underlying23 hv
  obtain ⟨fuel, hf⟩ := h
  have hc3 : Try.prog.cellsOf 27 = 3 := by kernel_rfl
  have hc1 : Try.prog.cellsOf 3 = 1 := by kernel_rfl
  obtain ⟨f0, f1, f2, hst, ⟨t0, o0⟩, ⟨t1, o1⟩, t2, o2⟩ := tokFields
  rcases open_slice Try.underlying23 hf with ⟨hcs, _⟩ | ⟨ad, len', cap', m, n, D, Pl, hcs, hb, hl, hm, hmm, hx, hi⟩
  · simp [Value.cells] at hcs
    obtain ⟨rfl, rfl, rfl⟩ := hcs
    exact ⟨[], Rd.nil _ _ _ _ _, .inl rfl⟩
  · simp [Value.cells] at hcs
    obtain ⟨rfl, rfl, rfl⟩ := hcs
    obtain ⟨ts, htl, hts⟩ := list_of (p := fun i (t : IT) => W.cell? (ad.add (i * 3)) = some (.int .i64 t.k) ∧ W.cell? (ad.add (i * 3 + 1)) = some (.int .i64 t.a) ∧ W.cell? (ad.add (i * 3 + 2)) = some (.int .i64 t.b)) len fun i hil => by
      obtain ⟨cs', hcs', htr⟩ := hi i (by rw [hmm]; split <;> omega)
      rw [hc3] at hcs'
      obtain ⟨_, hcl, hat⟩ := World.cells?_some hcs'
      match cs', hcl with
      | [x0, x1, x2], _ =>
        obtain ⟨y0, y1, y2, n', _, _, h0, h1, h2⟩ := trod_struct3 hst htr
        simp only [t0, o0, t1, o1, t2, o2, hc1, List.drop_zero, List.take_succ_cons, List.take_zero, List.drop_succ_cons] at h0 h1 h2
        obtain ⟨z0, e0, _⟩ := DataW.trod_int Try.underlying3 h0
        obtain ⟨z1, e1, _⟩ := DataW.trod_int Try.underlying3 h1
        obtain ⟨z2, e2, _⟩ := DataW.trod_int Try.underlying3 h2
        simp only [List.cons.injEq, and_true] at e0 e1 e2
        refine ⟨⟨z0, z1, z2⟩, ?_, ?_, ?_⟩
        · have := hat 0 (by omega)
          rw [Go.Deep.add_add, Nat.add_zero] at this
          rw [this, ← e0]; rfl
        · have := hat 1 (by omega)
          rw [Go.Deep.add_add] at this
          rw [this, ← e1]; rfl
        · have := hat 2 (by omega)
          rw [Go.Deep.add_add] at this
          rw [this, ← e2]; rfl
    refine ⟨ts, ⟨its_len ts, some ad, cap, by rw [htl], by omega, fun hpos => ?_⟩, .inr ⟨ad, cap, by rw [htl]⟩⟩
    obtain ⟨b, o, s⟩ := ad
    have h0 := (hts 0 ts[0] (List.getElem?_eq_getElem hpos)).1
    have hs : s = none := by
      cases s with
      | none => rfl
      | some s =>
        exfalso
        unfold World.cell? at h0
        split at h0
        · simp [Addr.add] at h0
        · cases h0
    subst hs
    have hblt : b < W.heap.size := by
      rcases Nat.lt_or_ge b W.heap.size with h | h
      · exact h
      · exfalso
        unfold World.cell? at h0
        rw [show (Addr.add ⟨b, o, none⟩ (0 * 3)).block = b from rfl, Array.getElem?_eq_none h] at h0
        cases h0
    refine ⟨b, o, rfl, hblt, fun j hj => ?_⟩
    have hk : j / 3 < ts.length := by omega
    obtain ⟨a0, a1, a2⟩ := hts (j / 3) ts[j / 3] (List.getElem?_eq_getElem hk)
    obtain ⟨b0, b1, b2⟩ := its_get ts (j / 3) hk
    have hadd : ∀ i, (Addr.add ⟨b, o, none⟩ i) = ⟨b, o + i, none⟩ := fun i => by simp [Addr.add]
    rw [hadd] at a0 a1 a2
    have hj3 : j = j / 3 * 3 + j % 3 := by omega
    have hr : j % 3 = 0 ∨ j % 3 = 1 ∨ j % 3 = 2 := by omega
    rcases hr with hr | hr | hr <;> rw [hr] at hj3 <;> rw [hj3]
    · rw [Nat.add_zero, a0, b0]
    · rw [a1, b1]
    · rw [a2, b2]
end
end Go.Proofs.Ytnmebingjpnlgaa
