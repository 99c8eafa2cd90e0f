/- The contract of relex's Spans over whatever tokens. -/
import Derived.Test.YtnmebingjpnlgaaIsW
import Derived.BigRegion
import Derived.ChangeAlike
namespace Go.Proofs.Ytnmebingjpnlgaa
open Go.RowKit Go.Lib
set_option maxRecDepth 100000
set_option linter.unusedVariables false
set_option linter.unusedSectionVars false

/-- a token of whatever numbers. -/
structure IT where
  k : Int
  a : Int
  b : Int
def itCells (t : IT) : List Value := [.int .i64 t.k, .int .i64 t.a, .int .i64 t.b]
def itsCells (ts : List IT) : List Value := ts.flatMap itCells
def toIT (t : Lx.Tok) : IT := ⟨t.kind, t.a, t.b⟩
theorem its_toks (ts : List Lx.Tok) : toksCells ts = itsCells (ts.map toIT) := by
  simp only [toksCells, itsCells, List.flatMap_map]
  rfl
theorem its_len (ts : List IT) : (itsCells ts).length = ts.length * 3 := by
  induction ts with
  | nil => rfl
  | cons t ts ih =>
    simp only [itsCells, List.flatMap_cons, List.length_append, List.length_cons] at ih ⊢
    rw [ih]
    simp [itCells]
    omega
theorem its_get : ∀ (ts : List IT) (k : Nat) (h : k < ts.length), (itsCells ts)[k * 3]? = some (.int .i64 ts[k].k) ∧ (itsCells ts)[k * 3 + 1]? = some (.int .i64 ts[k].a) ∧ (itsCells ts)[k * 3 + 2]? = some (.int .i64 ts[k].b)
  | t :: ts, 0, _ => ⟨rfl, rfl, rfl⟩
  | t :: ts, k + 1, h => by
    have := its_get ts k (by simpa using h)
    simp only [itsCells, List.flatMap_cons, List.getElem_cons_succ] at this ⊢
    have e : (itCells t).length = 3 := rfl
    refine ⟨?_, ?_, ?_⟩
    · rw [List.getElem?_append_right (by omega), e, show (k + 1) * 3 - 3 = k * 3 by omega]; exact this.1
    · rw [List.getElem?_append_right (by omega), e, show (k + 1) * 3 + 1 - 3 = k * 3 + 1 by omega]; exact this.2.1
    · rw [List.getElem?_append_right (by omega), e, show (k + 1) * 3 + 2 - 3 = k * 3 + 2 by omega]; exact this.2.2
theorem rd_it {w : World} {g o n : Nat} {ts : List IT} (hr : ∀ j, j < n * 3 → w.cell? ⟨g, o + j, none⟩ = (itsCells ts)[j]?) (hn : n = ts.length) {k : Nat} (h : k < n) :
    ∃ t, ts[k]? = some t ∧ w.cell? ⟨g, o + k * 3, none⟩ = some (.int .i64 t.k) ∧ w.cell? ⟨g, o + k * 3 + 1, none⟩ = some (.int .i64 t.a) ∧ w.cell? ⟨g, o + k * 3 + 2, none⟩ = some (.int .i64 t.b) := by
  subst hn
  obtain ⟨h0, h1, h2⟩ := its_get ts k h
  refine ⟨ts[k], List.getElem?_eq_getElem h, ?_, ?_, ?_⟩
  · rw [hr _ (by omega)]; exact h0
  · rw [Nat.add_assoc, hr _ (by omega)]; exact h1
  · rw [Nat.add_assoc, hr _ (by omega)]; exact h2

/-- is it that word of the language? -/
def isB (s : ByteArray) (z : List UInt8) (t : IT) : Bool := decide (t.k = 5 ∨ t.k = 6) && (wordF s t.a t.b).toList == z
theorem is_any (s : ByteArray) (t : IT) (z : ByteArray) (w : World) (hs : s.size ≤ 9223372036854775807) :
    Calls Try.prog 18 #[.string s, .agg #[.int .i64 t.k, .int .i64 t.a, .int .i64 t.b], .string z] w fun e w' => e = .returned (.bool (isB s z.toList t)) ∧ Below w.heap.size w w' := by
  by_cases h : t.k = 5 ∨ t.k = 6
  · refine (is_yes s t.k t.a t.b z w hs h).mono fun e w' he => ⟨?_, he.2⟩
    rw [he.1]
    simp [isB, h]
  · refine (is_no s t.k t.a t.b z w hs (fun e => h (.inl e)) (fun e => h (.inr e))).mono fun e w' he => ⟨?_, he.2⟩
    rw [he.1]
    simp [isB, h]
theorem ris_any (s : ByteArray) (t : IT) (z : ByteArray) (w : World) (hs : s.size ≤ 9223372036854775807) :
    Calls Try.prog 25 #[.string s, .agg #[.int .i64 t.k, .int .i64 t.a, .int .i64 t.b], .string z] w fun e w' => e = .returned (.bool (isB s z.toList t)) ∧ Below w.heap.size w w' := by
  by_cases h : t.k = 5 ∨ t.k = 6
  · refine (ris_yes s t.k t.a t.b z w hs h).mono fun e w' he => ⟨?_, he.2⟩
    rw [he.1]
    simp [isB, h]
  · refine (ris_no s t.k t.a t.b z w hs (fun e => h (.inl e)) (fun e => h (.inr e))).mono fun e w' he => ⟨?_, he.2⟩
    rw [he.1]
    simp [isB, h]

/-! ### the spans of tokens -/
def setB (acc : List (Int × Int)) (b : Int) : List (Int × Int) := acc.dropLast ++ [((acc.getLast?.getD (0, 0)).1, b)]
def spStep (p : IT → Bool) (x : Bool × List (Int × Int)) (t : IT) : Bool × List (Int × Int) :=
  if p t then (false, x.2) else if x.1 then (true, setB x.2 t.b) else (true, x.2 ++ [(t.a, t.b)])
def spSt (p : IT → Bool) (ts : List IT) : Bool × List (Int × Int) := ts.foldl (spStep p) (false, [])
def spansF (p : IT → Bool) (ts : List IT) : List (Int × Int) := (spSt p ts).2
def spCells (l : List (Int × Int)) : List Value := l.flatMap fun x => [.int .i64 x.1, .int .i64 x.2]
theorem sp_len (l : List (Int × Int)) : (spCells l).length = l.length * 2 := by
  induction l with
  | nil => rfl
  | cons t l ih =>
    simp only [spCells, List.flatMap_cons, List.length_append, List.length_cons] at ih ⊢
    rw [ih]
    simp
    omega
theorem sp_app (l m : List (Int × Int)) : spCells (l ++ m) = spCells l ++ spCells m := by simp [spCells]
theorem sp_plain (l : List (Int × Int)) : ∀ u ∈ spCells l, u.oneCell' = true := by
  intro u hu
  simp only [spCells, List.mem_flatMap, List.mem_cons, List.mem_nil_iff, or_false] at hu
  obtain ⟨t, _, rfl | rfl⟩ := hu <;> rfl
theorem last_split {α : Type} {l : List α} (h : l ≠ []) : ∃ i x, l = i ++ [x] := by
  rcases List.eq_nil_or_concat l with h' | ⟨i, x, h'⟩
  · exact absurd h' h
  · exact ⟨i, x, by simpa using h'⟩
theorem setB_len {acc : List (Int × Int)} (h : acc ≠ []) (b : Int) : (setB acc b).length = acc.length := by
  obtain ⟨i, x, rfl⟩ := last_split h
  simp [setB]
theorem sp_set {acc : List (Int × Int)} (h : acc ≠ []) (b : Int) : (spCells acc).set ((acc.length - 1) * 2 + 1) (.int .i64 b) = spCells (setB acc b) := by
  obtain ⟨i, x, rfl⟩ := last_split h
  have e : setB (i ++ [x]) b = i ++ [(x.1, b)] := by simp [setB]
  rw [e, sp_app, sp_app, List.set_append, if_neg (by rw [sp_len]; simp), sp_len]
  simp only [List.length_append, List.length_singleton, Nat.add_sub_cancel]
  rw [show i.length * 2 + 1 - i.length * 2 = 1 by omega]
  rfl
theorem sp_snoc (p : IT → Bool) (ts : List IT) (t : IT) : spSt p (ts ++ [t]) = spStep p (spSt p ts) t := by simp [spSt]
theorem sp_take (p : IT → Bool) {ts : List IT} {k : Nat} {t : IT} (h : ts[k]? = some t) : spSt p (ts.take (k + 1)) = spStep p (spSt p (ts.take k)) t := by
  rw [List.take_add_one, h]
  exact sp_snoc p _ t
theorem sp_count_at (p : IT → Bool) : ∀ (n : Nat) (ts : List IT), ts.length = n → (spSt p ts).2.length ≤ ts.length ∧ ((spSt p ts).1 = true → (spSt p ts).2 ≠ []) := by
  intro n
  induction n with
  | zero =>
    intro ts h
    obtain rfl := List.eq_nil_of_length_eq_zero h
    exact ⟨Nat.le_refl _, fun h => by cases h⟩
  | succ n ih =>
    intro ts h
    obtain ⟨i, t, rfl⟩ := last_split (l := ts) (by intro e; rw [e] at h; simp at h)
    have ih := ih i (by simpa using h)
    rw [sp_snoc]
    unfold spStep
    split
    · exact ⟨by simp; omega, fun h => by cases h⟩
    · split
      · rename_i h1
        refine ⟨by rw [setB_len (ih.2 h1)]; simp; omega, fun _ e => ?_⟩
        have := congrArg List.length e
        simp [setB] at this
      · exact ⟨by simp; omega, fun _ => by simp⟩
theorem sp_count (p : IT → Bool) (ts : List IT) : (spSt p ts).2.length ≤ ts.length ∧ ((spSt p ts).1 = true → (spSt p ts).2 ≠ []) := sp_count_at p _ ts rfl
end Go.Proofs.Ytnmebingjpnlgaa
