/- Two rows that grow side by side; the contract of the reference's match. -/
import Derived.Test.YtmpmibebkflaiaaDoorTypCo
namespace Go.Proofs.YtmpmibebkflaiaaDoor
open Go.RowKit Go.Lib Go.Shelf Go.Sort Tp
set_option maxRecDepth 100000
set_option linter.unusedVariables false
set_option linter.unusedSectionVars false

/-- only the own rows of a and b have turned, and a' and b' lie there or in new blocks. -/
structure Wr2 (w : World) (a b : Value) (w' : World) (a' b' : Value) : Prop where
  os : w'.os = w.os
  tape : w'.tape = w.tape
  output : w'.output = w.output
  size : w.heap.size ≤ w'.heap.size
  block : ∀ g, g < w.heap.size → a.ownBlock ≠ some g → b.ownBlock ≠ some g → w'.heap[g]? = w.heap[g]?
  fst : a'.ownBlock = a.ownBlock ∨ ∀ g, a'.ownBlock = some g → w.heap.size ≤ g
  snd : b'.ownBlock = b.ownBlock ∨ ∀ g, b'.ownBlock = some g → w.heap.size ≤ g
theorem Wr2.refl (w : World) (a b : Value) : Wr2 w a b w a b := ⟨rfl, rfl, rfl, Nat.le_refl _, fun _ _ _ _ => rfl, .inl rfl, .inl rfl⟩
theorem Wr2.trans {w w1 w2 : World} {a a1 a2 b b1 b2 : Value} (h : Wr2 w a b w1 a1 b1) (k : Wr2 w1 a1 b1 w2 a2 b2) : Wr2 w a b w2 a2 b2 := by
  refine ⟨k.os.trans h.os, k.tape.trans h.tape, k.output.trans h.output, Nat.le_trans h.size k.size, fun g hg ha hb => ?_, ?_, ?_⟩
  · refine (k.block g (Nat.lt_of_lt_of_le hg h.size) (fun e => ?_) (fun e => ?_)).trans (h.block g hg ha hb)
    · rcases h.fst with h2 | h2
      · exact ha (by rw [← h2]; exact e)
      · have := h2 g e; omega
    · rcases h.snd with h2 | h2
      · exact hb (by rw [← h2]; exact e)
      · have := h2 g e; omega
  · rcases k.fst with k2 | k2
    · rw [k2]; exact h.fst
    · exact .inr fun g hg => Nat.le_trans h.size (k2 g hg)
  · rcases k.snd with k2 | k2
    · rw [k2]; exact h.snd
    · exact .inr fun g hg => Nat.le_trans h.size (k2 g hg)
theorem Wr2.ofFst {w w' : World} {a a' : Value} (h : Wr w a w' a') (b : Value) : Wr2 w a b w' a' b :=
  ⟨h.1.os, h.1.tape, h.1.output, h.1.size, fun g hg ha _ => h.1.block g hg (fun e => ha e.symm), h.2, .inl rfl⟩
theorem Wr2.ofSnd {w w' : World} {b b' : Value} (h : Wr w b w' b') (a : Value) : Wr2 w a b w' a b' :=
  ⟨h.1.os, h.1.tape, h.1.output, h.1.size, fun g hg _ hb => h.1.block g hg (fun e => hb e.symm), .inl rfl, h.2⟩
theorem Wr2.alloc (w : World) (o : Obj) (a b : Value) : Wr2 w a b (w.alloc o) a b := Wr2.ofFst (Wr.alloc w o a) b
theorem Wr2.drewN (w : World) (q : Nat) (a b : Value) : Wr2 w a b (w.drewN q) a b := Wr2.ofFst (Wr.drewN w q a) b
theorem Wr2.still {w w' : World} (hb : Below w.heap.size w w') (a b : Value) : Wr2 w a b w' a b :=
  ⟨hb.os, hb.tape, hb.output, hb.size, fun g hg _ _ => hb.block g hg, .inl rfl, .inl rfl⟩
/-- a row of types whose own types lie below it. -/
def TRow (B : Nat) (l : List Ty) (v : Value) (w : World) : Prop := Tys B (fun g => g < B) l v w
section
variable {B : Nat} {l : List Int} {m : List Ty} {a a' b b' : Value} {w w' : World}
theorem TRow.lt (h : TRow B m b w) : ∀ g, b.ownBlock = some g → B ≤ g ∧ g < w.heap.size := by
  obtain ⟨ps, -, ho, -⟩ := h
  exact fun g hg => ho.lt g hg
theorem TRow.form (h : TRow B m b w) : ∃ A c, b = .slice A m.length c := Tys.len h
theorem own_kind {e size n : Nat} {v : Value} {xs : List Value} (h : w.ownsRow B e size v n xs) {g : Nat} (hg : v.ownBlock = some g) : ∃ cur, w.heap[g]? = some (.cells cur e (0, 0)) := by
  rcases h.2 with ⟨rfl, -⟩ | ⟨g', cap, cur, rfl, -, hh, -⟩
  · cases hg
  · simp only [Value.ownBlock, Option.some.injEq] at hg
    subst hg
    exact ⟨cur, hh⟩
/-- rows of ints and of types lie apart. -/
theorem rows_apart (h : IRow B l a w) (k : TRow B m b w) {g : Nat} (ha : a.ownBlock = some g) : b.ownBlock ≠ some g := by
  intro hb
  obtain ⟨c1, e1⟩ := own_kind h ha
  obtain ⟨ps, -, ho, -⟩ := k
  obtain ⟨c2, e2⟩ := own_kind ho hb
  rw [e1] at e2
  simp at e2
theorem IRow.keepT (h : IRow B l a w) (k : TRow B m b w) (hw : Wr w b w' b') : IRow B l a w' := own_same h fun g hg => hw.1.block g (h.lt g hg).2 fun e => rows_apart h k hg e.symm
theorem TRow.keepI (k : TRow B m b w) (h : IRow B l a w) (hB : B ≤ w.heap.size) (hw : Wr w a w' a') : TRow B m b w' := by
  have ha := fun g (hg : a.ownBlock = some g) => (h.lt g hg).1
  have hap := fun g (hg : b.ownBlock = some g) => fun e : a.ownBlock = some g => rows_apart h k e hg
  obtain ⟨ps, hp, ho, he⟩ := k
  refine ⟨ps, hp, own_same ho fun g hg => hw.1.block g (ho.lt g hg).2 fun e => hap g hg e.symm, fun p hp => ?_⟩
  refine ((he p hp).same fun g hg => hw.1.block g hg.2.1 fun e => ?_).weak fun g hg => ⟨hg.1, by have := hg.2.1; have := hw.1.size; omega, hg.2.2⟩
  have := ha g e.symm
  have : g < B := hg.1
  omega
theorem TRow.alloc (k : TRow B m b w) (o : Obj) : TRow B m b (w.alloc o) := Tys.below k ((Below.refl _ _).alloc (Nat.le_refl _) o)
theorem TRow.drewN (k : TRow B m b w) (q : Nat) : TRow B m b (w.drewN q) := Tys.below k (below_drewN (Below.refl _ _) q)
theorem IRow.drewN (k : IRow B l a w) (q : Nat) : IRow B l a (w.drewN q) := k
theorem run_append_ty (base : Nat) (ty : TypeId) {t : Ty} {s : Value} (hown : TRow base m b w) (hs : IsA w (fun g => g < base) t.args s) (ad : Addr) (c : Nat) (hnews : ∀ j u, (tyCells t s)[j]? = some u → w.cell? (ad.add j) = some u) (hlim : m.length ≤ 1000000) (hbase : base ≤ w.heap.size) :
    ∃ v' w', (Builtin.append_ #[22, 22] ty #[b, .slice (some ad) 1 c]).run Tryd.prog w = .ok v' w' ∧ TRow base (m ++ [t]) v' w' ∧ Wr w b w' v' := by
  obtain ⟨i, hi, hz, h1, h2⟩ := info_parts infoTy
  obtain ⟨ps, rfl, ho, he⟩ := hown
  obtain ⟨v', w', hr, ho', hg, -, hl⟩ := run_append_own_at (P := Tryd.prog) w base 22 ty 24 i _ 4 56 Tryd.underlying22 hi hz h1 h2 rfl (by decide) b _ (psCells ps) ho ad 1 c (tyCells t s) rfl hnews (ty_plain hs) (by unfold maxLen; omega) (by omega) hbase
  have hW : Wr w b w' v' := ⟨hg, hl.imp id fun h g hg' => by rw [h] at hg'; cases hg'; exact Nat.le_refl _⟩
  refine ⟨v', w', hr, ⟨ps ++ [(t, s)], by simp, by rw [psCells_snoc, List.length_append, List.length_singleton]; exact ho', fun p hp => ?_⟩, hW⟩
  have hlt := fun g (e : b.ownBlock = some g) => (ho.lt g e).1
  have key : ∀ {ls : List Ty} {u : Value}, IsA w (Aside (fun g => g < base) b w) ls u → IsA w' (Aside (fun g => g < base) v' w') ls u := fun h => by
    refine (h.same fun g hg' => hg.block g hg'.2.1 hg'.2.2).weak fun g hg' => ⟨hg'.1, by have := hg'.2.1; have := hg.size; omega, ?_⟩
    rcases hl with e | e
    · rw [e]; exact hg'.2.2
    · rw [e]
      have := hg'.2.1
      simp only [ne_eq, Option.some.injEq]
      omega
  rcases List.mem_append.1 hp with hp | hp
  · exact key (he p hp)
  · simp only [List.mem_singleton] at hp
    subst hp
    exact key (hs.weak fun g hg' => ⟨hg', by omega, fun e => by have := hlt g e.symm; omega⟩)
end
section
variable {w : World} {ops : Array Oper} {rest : List Oper} {o : Oper} {a : Act} {Q : Exit → Act → World → Prop} {K : Act → World → Prop} {E : Prop}
theorem step_append_int (hgd : o.guard = none) (s x : Operand) (ho : o.op = .call { callee := .builtin .append, args := #[s, x], argTypes := #[40, 40] })
    (base : Nat) (v : Value) (l : List Int) (hs : a.eval s = v) (hown : IRow base l v w) (ad : Addr) (n c : Nat) (m : List Int) (hx : a.eval x = .slice (some ad) n c) (hm : m.length = n) (hnews : ∀ j u, (intsC m)[j]? = some u → w.cell? (ad.add j) = some u) (hlim : l.length + n ≤ 17592186044416) (hbase : base ≤ w.heap.size)
    (h : ∀ v' w', IRow base (l ++ m) v' w' → Wr w v w' v' → K (a.put o.dst v') w') : if Region.wanted o (yielded ops a.tmps) = true then Oper.wp Tryd.prog o a w K Q else E := by
  subst hm
  rw [if_pos (by simp [Region.wanted, hgd])]
  obtain ⟨v', w', hr, h2, h3⟩ := run_append_int base o.type v l hown ad c m hnews hlim hbase
  unfold Oper.wp execOp
  simp only [ho, resolve, invoke, builtin, Sem.run_bind, Sem.run_pure, Result.andThen_ok, List.map_toArray, List.map_cons, List.map_nil, hs, hx, hr]
  exact h v' w' h2 h3
theorem step_append_ty (hgd : o.guard = none) (s x : Operand) (ho : o.op = .call { callee := .builtin .append, args := #[s, x], argTypes := #[22, 22] })
    (base : Nat) (v : Value) (m : List Ty) {t : Ty} {st : Value} (hs : a.eval s = v) (hown : TRow base m v w) (hst : IsA w (fun g => g < base) t.args st) (ad : Addr) (c : Nat) (hx : a.eval x = .slice (some ad) 1 c) (hnews : ∀ j u, (tyCells t st)[j]? = some u → w.cell? (ad.add j) = some u) (hlim : m.length ≤ 1000000) (hbase : base ≤ w.heap.size)
    (h : ∀ v' w', TRow base (m ++ [t]) v' w' → Wr w v w' v' → K (a.put o.dst v') w') : if Region.wanted o (yielded ops a.tmps) = true then Oper.wp Tryd.prog o a w K Q else E := by
  rw [if_pos (by simp [Region.wanted, hgd])]
  obtain ⟨v', w', hr, h2, h3⟩ := run_append_ty base o.type hown hst ad c hnews hlim hbase
  unfold Oper.wp execOp
  simp only [ho, resolve, invoke, builtin, Sem.run_bind, Sem.run_pure, Result.andThen_ok, List.map_toArray, List.map_cons, List.map_nil, hs, hx, hr]
  exact h v' w' h2 h3
end
/-- what match answers. -/
def MatchPost (B : Nat) (f' : List (Int × Ty)) (ok : Bool) (vn vt : Value) (w : World) (e : Ending) (w' : World) : Prop :=
  ∃ a b, e = .returned (.tuple #[a, b, .bool ok]) ∧ RowKit.Hid (IRow B (f'.map (·.1)) a w') ∧ RowKit.Hid (TRow B (f'.map (·.2)) b w') ∧ RowKit.Hid (Wr2 w vn vt w' a b)
end Go.Proofs.YtmpmibebkflaiaaDoor
