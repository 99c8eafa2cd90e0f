/- Types in memory. The contract of Weight. The contract of SameType. -/
import Derived.Test.YtmpmibebkflaiaaGreatDoorTypC
import Derived.Test.YtmpmibebkflaiaaGreatDoorMem
import Derived.Maps.AppendAt
import Derived.Deep.QuietTactic
import Derived.BigQuiet
import Derived.Lib.Hide
import Derived.Test.YtmpmibebkflaiaaGreatDoorLexE
import Derived.Deep.RegionWith
import Derived.Lib.Strings
namespace Go.Proofs.YtmpmibebkflaiaaGreatDoor
open Go.RowKit Go.Lib Tp
set_option maxRecDepth 100000
set_option linter.unusedVariables false
set_option linter.unusedSectionVars false

theorem drop_cons {α : Type} {l : List α} {k : Nat} {x : α} (h : l[k]? = some x) : l.drop k = x :: l.drop (k + 1) := by
  obtain ⟨hk, rfl⟩ := List.getElem?_eq_some_iff.1 h
  exact List.drop_eq_getElem_cons hk
/-- a type, told as a value: s is what its Args are. -/
def tv (t : Ty) (s : Value) : Value := .agg #[.int .i64 t.kind, .int .i64 t.num, .string t.name, s]
def tyCells (t : Ty) (s : Value) : List Value := [.int .i64 t.kind, .int .i64 t.num, .string t.name, s]
/-- the slice value reads ls these types; all of it lies in blocks of S. -/
inductive IsA (w : World) (S : Nat → Prop) : List Ty → Value → Prop
  | mk (ls : List Ty) (A : Option Addr) (n c g o : Nat) (f : Nat → Value) (hn : n = ls.length) (hc : n ≤ c) (hA : 0 < n → A = some ⟨g, o, none⟩ ∧ S g)
      (hcell : ∀ (i : Nat) (t : Ty), ls[i]? = some t → w.cell? ⟨g, o + i * 4, none⟩ = some (.int .i64 t.kind) ∧ w.cell? ⟨g, o + i * 4 + 1, none⟩ = some (.int .i64 t.num) ∧ w.cell? ⟨g, o + i * 4 + 2, none⟩ = some (.string t.name) ∧ w.cell? ⟨g, o + i * 4 + 3, none⟩ = some (f i))
      (hrec : ∀ (i : Nat) (t : Ty), ls[i]? = some t → IsA w S t.args (f i)) : IsA w S ls (.slice A n c)
section
variable {w w' : World} {S S' : Nat → Prop} {ls : List Ty} {v : Value}
theorem IsA.form (h : IsA w S ls v) : ∃ A c, v = .slice A ls.length c ∧ ls.length ≤ c := by
  cases h with
  | mk _ A n c g o f hn hc hA hcell hrec => exact ⟨A, c, by rw [hn], by omega⟩
theorem IsA.nil (w : World) (S : Nat → Prop) (A : Option Addr) (c : Nat) : IsA w S [] (.slice A 0 c) :=
  .mk [] A 0 c 0 0 (fun _ => .nilIface) rfl (Nat.zero_le _) (fun h => absurd h (by omega)) (fun i t h => by simp at h) (fun i t h => by simp at h)
/-- the cells of all elements. -/
theorem IsA.open (h : IsA w S ls v) : ∃ A c, v = .slice A ls.length c ∧ ls.length ≤ c ∧ (0 < ls.length → ∃ g o, A = some ⟨g, o, none⟩ ∧ S g ∧ ∀ (i : Nat) (t : Ty), ls[i]? = some t → ∃ s, w.cell? ⟨g, o + i * 4, none⟩ = some (.int .i64 t.kind) ∧ w.cell? ⟨g, o + i * 4 + 1, none⟩ = some (.int .i64 t.num) ∧ w.cell? ⟨g, o + i * 4 + 2, none⟩ = some (.string t.name) ∧ w.cell? ⟨g, o + i * 4 + 3, none⟩ = some s ∧ IsA w S t.args s) := by
  cases h with
  | mk _ A n c g o f hn hc hA hcell hrec =>
    refine ⟨A, c, by rw [hn], by omega, fun h0 => ?_⟩
    obtain ⟨e, hs⟩ := hA (by omega)
    refine ⟨g, o, e, hs, fun i t hi => ?_⟩
    obtain ⟨c0, c1, c2, c3⟩ := hcell i t hi
    exact ⟨f i, c0, c1, c2, c3, hrec i t hi⟩
theorem IsA.same (h : IsA w S ls v) (hb : ∀ g, S g → w'.heap[g]? = w.heap[g]?) : IsA w' S ls v := by
  induction h with
  | mk ls A n c g o f hn hc hA hcell hrec ih =>
    refine .mk ls A n c g o f hn hc hA (fun i t hi => ?_) fun i t hi => ih i t hi
    have h0 : 0 < n := by have := (List.getElem?_eq_some_iff.1 hi).1; omega
    have hk : ∀ j, w'.cell? ⟨g, j, none⟩ = w.cell? ⟨g, j, none⟩ := fun j => World.cell?_of_block (w := w) (hb g (hA h0).2)
    simp only [hk]
    exact hcell i t hi
theorem IsA.weak (h : IsA w S ls v) (hs : ∀ g, S g → S' g) : IsA w S' ls v := by
  induction h with
  | mk ls A n c g o f hn hc hA hcell hrec ih => exact .mk ls A n c g o f hn hc (fun h => ⟨(hA h).1, hs g (hA h).2⟩) hcell fun i t hi => ih i t hi
end
/-- the blocks of a world. -/
def Old (w : World) (g : Nat) : Prop := g < w.heap.size
theorem IsA.after {w w' : World} {ls : List Ty} {v : Value} (h : IsA w (Old w) ls v) (hb : Below w.heap.size w w') : IsA w' (Old w') ls v :=
  (h.same fun g hg => hb.block g hg).weak fun g hg => by have := hb.size; unfold Old at *; omega
theorem IsA.belowN {w w' : World} {B : Nat} {S : Nat → Prop} {ls : List Ty} {v : Value} (h : IsA w S ls v) (hs : ∀ g, S g → g < B) (hb : Below B w w') : IsA w' S ls v := h.same fun g hg => hb.block g (hs g hg)
/-- new blocks of a call. -/
def New (B : Nat) (w : World) (g : Nat) : Prop := B ≤ g ∧ g < w.heap.size
theorem IsA.new {w : World} {B : Nat} {ls : List Ty} {v : Value} (h : IsA w (New B w) ls v) : IsA w (Old w) ls v := h.weak fun _ hg => hg.2
theorem IsA.newer {w w' : World} {B B' : Nat} {ls : List Ty} {v : Value} (h : IsA w (New B w) ls v) (hb : Below w.heap.size w w') (hB : B' ≤ B) : IsA w' (New B' w') ls v :=
  (h.same fun g hg => hb.block g hg.2).weak fun g hg => by have := hb.size; unfold New at *; omega

/-! ### a row of types that a call builds -/
def psCells (ps : List (Ty × Value)) : List Value := ps.flatMap fun p => tyCells p.1 p.2
theorem psCells_len (ps : List (Ty × Value)) : (psCells ps).length = ps.length * 4 := by
  induction ps with
  | nil => rfl
  | cons p ps ih =>
    show (tyCells p.1 p.2 ++ psCells ps).length = _
    rw [List.length_append, ih, List.length_cons]
    show 4 + _ = _
    omega
theorem psCells_get : ∀ (ps : List (Ty × Value)) (i : Nat) (p : Ty × Value), ps[i]? = some p → (psCells ps)[i * 4]? = some (.int .i64 p.1.kind) ∧ (psCells ps)[i * 4 + 1]? = some (.int .i64 p.1.num) ∧ (psCells ps)[i * 4 + 2]? = some (.string p.1.name) ∧ (psCells ps)[i * 4 + 3]? = some p.2
  | q :: ps, 0, p, h => by
    simp at h
    subst h
    exact ⟨rfl, rfl, rfl, rfl⟩
  | q :: ps, i + 1, p, h => by
    have ih := psCells_get ps i p (by simpa using h)
    have e0 : ∀ j, (psCells (q :: ps))[4 + j]? = (psCells ps)[j]? := by
      intro j
      show (tyCells q.1 q.2 ++ psCells ps)[4 + j]? = _
      rw [List.getElem?_append_right (by simp [tyCells])]
      simp [tyCells]
    rw [show (i + 1) * 4 = 4 + i * 4 by omega, Nat.add_assoc 4, Nat.add_assoc 4, Nat.add_assoc 4, e0, e0, e0, e0]
    exact ih
theorem psCells_snoc (ps : List (Ty × Value)) (p : Ty × Value) : psCells (ps ++ [p]) = psCells ps ++ tyCells p.1 p.2 := by simp [psCells]
theorem isA_one {w : World} {S : Nat → Prop} {ls : List Ty} {v : Value} (h : IsA w S ls v) : v.oneCell' = true := by
  obtain ⟨A, c, rfl, -⟩ := h.form
  rfl
/-- what a row's elements may hang on: blocks of S, not the row's own. -/
def Aside (S : Nat → Prop) (v : Value) (w : World) (g : Nat) : Prop := S g ∧ g < w.heap.size ∧ some g ≠ v.ownBlock
/-- the row v of a call's own, from block B on, reads ls the types acc; its elements hang on blocks of S. -/
def Tys (B : Nat) (S : Nat → Prop) (acc : List Ty) (v : Value) (w : World) : Prop :=
  ∃ ps : List (Ty × Value), ps.map (·.1) = acc ∧ w.ownsRow B 24 4 v acc.length (psCells ps) ∧ ∀ p ∈ ps, IsA w (Aside S v w) p.1.args p.2
theorem infoTy : (Tryz.prog.info? 24).map (fun i => (i.zero, i.size, i.bytes)) = some (some (.agg #[.int .i64 0, .int .i64 0, .string ⟨#[]⟩, .slice none 0 0]), 4, 56) := by kernel_rfl
theorem own_same {w w' : World} {B e size n : Nat} {v : Value} {xs : List Value} (h : w.ownsRow B e size v n xs) (hb : ∀ g, v.ownBlock = some g → w'.heap[g]? = w.heap[g]?) : w'.ownsRow B e size v n xs := by
  refine ⟨h.1, ?_⟩
  rcases h.2 with hn | ⟨g, cap, cur, rfl, hg, hgg, rest⟩
  · exact .inl hn
  · exact .inr ⟨g, cap, cur, rfl, hg, by rw [hb g rfl]; exact hgg, rest⟩
theorem own_base {w : World} {B B' e size n : Nat} {v : Value} {xs : List Value} (h : w.ownsRow B e size v n xs) (hb : B' ≤ B) : w.ownsRow B' e size v n xs := by
  refine ⟨h.1, ?_⟩
  rcases h.2 with hn | ⟨g, cap, cur, rfl, hg, rest⟩
  · exact .inl hn
  · exact .inr ⟨g, cap, cur, rfl, by omega, rest⟩
section
variable {B B' : Nat} {S S' : Nat → Prop} {acc : List Ty} {v v' : Value} {w w' w3 : World}
theorem Tys.below (h : Tys B S acc v w) (hb : Below w.heap.size w w') : Tys B S acc v w' := by
  obtain ⟨ps, hp, ho, he⟩ := h
  refine ⟨ps, hp, own_same ho fun g hg => hb.block g (ho.lt g hg).2, fun p hp => ?_⟩
  exact ((he p hp).same fun g hg => hb.block g hg.2.1).weak fun g hg => ⟨hg.1, by have := hb.size; have := hg.2.1; omega, hg.2.2⟩
theorem Tys.weak (h : Tys B S acc v w) (hs : ∀ g, g < w.heap.size → S g → S' g) : Tys B S' acc v w := by
  obtain ⟨ps, hp, ho, he⟩ := h
  exact ⟨ps, hp, ho, fun p hp => (he p hp).weak fun g hg => ⟨hs g hg.2.1 hg.1, hg.2⟩⟩
theorem Tys.nil (B : Nat) (S : Nat → Prop) (w : World) : Tys B S [] (.slice none 0 0) w := ⟨[], rfl, World.ownsRow_nil _ _ _ _, by simp⟩
theorem Tys.empty (B : Nat) (S : Nat → Prop) (w : World) (hB : B ≤ w.heap.size) : Tys B S [] (.slice (some ⟨w.heap.size, 0, none⟩) 0 0) (w.alloc (.cells #[] 24)) :=
  ⟨[], rfl, World.ownsRow_lit w #[] 0 hB (by unfold maxLen; omega) rfl, by simp⟩
theorem Tys.isA (h : Tys B S acc v w) : IsA w (fun g => (S g ∨ B ≤ g) ∧ g < w.heap.size) acc v := by
  obtain ⟨ps, rfl, ho, he⟩ := h
  rw [List.length_map] at ho
  have hx := ho
  rcases ho.2 with ⟨rfl, h0⟩ | ⟨g, cap, cur, rfl, hg, hgg, hn, -⟩
  · obtain rfl := List.eq_nil_of_length_eq_zero h0
    exact IsA.nil _ _ _ _
  · refine .mk _ _ _ cap g 0 (fun i => (ps[i]?.map (·.2)).getD .nilIface) (List.length_map _).symm hn (fun _ => ⟨rfl, .inr hg, (Array.getElem?_eq_some_iff.1 hgg).1⟩) (fun i t hi => ?_) (fun i t hi => ?_)
    · rw [List.getElem?_map, Option.map_eq_some_iff] at hi
      obtain ⟨p, hp, rfl⟩ := hi
      obtain ⟨c0, c1, c2, c3⟩ := psCells_get ps i p hp
      have hc : ∀ j u, (psCells ps)[j]? = some u → w.cell? ⟨g, 0 + j, none⟩ = some u := fun j u hu => by
        have hj : j < ps.length * 4 := by have := (List.getElem?_eq_some_iff.1 hu).1; rw [psCells_len] at this; exact this
        rw [Nat.zero_add, ← hu]
        exact hx.cellAt j hj
      exact ⟨hc _ _ c0, by rw [Nat.add_assoc]; exact hc _ _ c1, by rw [Nat.add_assoc]; exact hc _ _ c2, by rw [Nat.add_assoc]; exact hc _ _ (by rw [hp]; exact c3)⟩
    · rw [List.getElem?_map, Option.map_eq_some_iff] at hi
      obtain ⟨p, hp, rfl⟩ := hi
      show IsA w _ p.1.args ((ps[i]?.map (·.2)).getD .nilIface)
      rw [hp]
      exact (he p (List.mem_of_getElem? hp)).weak fun g' hg' => ⟨.inl hg'.1, hg'.2.1⟩
theorem Tys.isNew (h : Tys B (fun g => B ≤ g) acc v w) : IsA w (New B w) acc v := h.isA.weak fun g hg => ⟨hg.1.elim id id, hg.2⟩
theorem Tys.len (h : Tys B S acc v w) : ∃ A c, v = .slice A acc.length c := by
  obtain ⟨A, c, rfl, -⟩ := h.isA.form
  exact ⟨A, c, rfl⟩
/-- the four cells of one element in a new block. -/
theorem ty_news (W : World) (t : Ty) (s : Value) (e : TypeId) : ∀ (j : Nat) (u : Value), (tyCells t s)[j]? = some u → (W.alloc (.cells #[.int .i64 t.kind, .int .i64 t.num, .string t.name, s] e)).cell? ((⟨W.heap.size, 0, none⟩ : Addr).add j) = some u := by
  intro j u hu
  have hj : j < 4 := (List.getElem?_eq_some_iff.1 hu).1
  rw [show (⟨W.heap.size, 0, none⟩ : Addr).add j = ⟨W.heap.size, 0 + j, none⟩ by simp [Addr.add]; exact fun h => h.symm, cell_of_row _ W.heap.size (0 + j) #[.int .i64 t.kind, .int .i64 t.num, .string t.name, s] e (0, 0) (heap_alloc_new W _), Nat.zero_add, ← hu]
  unfold tyCells
  rw [← Array.getElem?_toList]
theorem ty_plain {w : World} {S : Nat → Prop} {t : Ty} {s : Value} (h : IsA w S t.args s) : ∀ u ∈ tyCells t s, u.oneCell' = true := by
  intro u hu
  simp only [tyCells, List.mem_cons, List.mem_nil_iff, or_false] at hu
  rcases hu with rfl | rfl | rfl | rfl
  · rfl
  · rfl
  · rfl
  · exact isA_one h
/-- a row behind an append of one element: W: where the row was known last; w: where the element came; w3: behind the append. -/
theorem Tys.next {t : Ty} {s : Value} {W : World} {o : Obj} {ps : List (Ty × Value)} (hp : ps.map (·.1) = acc) (ho : w.ownsRow B 24 4 v acc.length (psCells ps)) (he : ∀ p ∈ ps, IsA w (Aside S v w) p.1.args p.2)
    (hs : IsA w (Aside S v w) t.args s) (hown : w3.ownsRow B 24 4 v' (acc.length + 1) (psCells ps ++ tyCells t s)) (hg : (w.alloc o).grownBy w3 v.ownBlock) (hl : v'.ownBlock = v.ownBlock ∨ v'.ownBlock = some (w.alloc o).heap.size) :
    Tys B S (acc ++ [t]) v' w3 := by
  have hsz : (w.alloc o).heap.size = w.heap.size + 1 := by simp
  have hs3 := hg.size
  have key : ∀ {ls : List Ty} {u : Value}, IsA w (Aside S v w) ls u → IsA w3 (Aside S v' w3) ls u := fun h => by
    refine (h.same fun g hg' => ?_).weak fun g hg' => ⟨hg'.1, by have := hg'.2.1; omega, ?_⟩
    · rw [hg.block g (by have := hg'.2.1; omega) hg'.2.2, Below.heap_alloc _ _ _ hg'.2.1]
    · rcases hl with h | h
      · rw [h]; exact hg'.2.2
      · rw [h]
        have := hg'.2.1
        simp only [ne_eq, Option.some.injEq]
        omega
  refine ⟨ps ++ [(t, s)], by rw [List.map_append, hp]; rfl, ?_, fun p hp => ?_⟩
  · rw [List.length_append, psCells_snoc]
    exact hown
  · rcases List.mem_append.1 hp with h | h
    · exact key (he p h)
    · rw [List.mem_singleton] at h
      subst h
      exact key hs
end
end Go.Proofs.YtmpmibebkflaiaaGreatDoor
namespace Go.Proofs.YtmpmibebkflaiaaGreatDoor
open Go.RowKit Go.Lib Tp
set_option maxRecDepth 100000
set_option linter.unusedVariables false
set_option linter.unusedSectionVars false

/-- the four cells of a type in a block of its own. -/
def BoxT (t : Ty) (s : Value) (B : Nat) (W : World) : Prop :=
  W.cell? ⟨B, 0, none⟩ = some (.int .i64 t.kind) ∧ W.cell? ⟨B, 1, none⟩ = some (.int .i64 t.num) ∧ W.cell? ⟨B, 2, none⟩ = some (.string t.name) ∧ W.cell? ⟨B, 3, none⟩ = some s
theorem boxT_of {W : World} {B : Nat} {t : Ty} {s : Value} {e : TypeId} (h : W.heap[B]? = some (.cells #[.int .i64 t.kind, .int .i64 t.num, .string t.name, s] e)) : BoxT t s B W := by
  refine ⟨?_, ?_, ?_, ?_⟩ <;> simp [World.cell?, h]
theorem boxT_new (w : World) (t : Ty) (s : Value) (e : TypeId) : BoxT t s w.heap.size (w.alloc (.cells #[.int .i64 t.kind, .int .i64 t.num, .string t.name, s] e)) := boxT_of (heap_alloc_new w _)
theorem BoxT.keep {W W' : World} {B C : Nat} {t : Ty} {s : Value} (h : BoxT t s B W) (hb : Below C W W') (hB : B < C) : BoxT t s B W' :=
  ⟨(hb.cell (p := ⟨B, 0, none⟩) hB).trans h.1, (hb.cell (p := ⟨B, 1, none⟩) hB).trans h.2.1, (hb.cell (p := ⟨B, 2, none⟩) hB).trans h.2.2.1, (hb.cell (p := ⟨B, 3, none⟩) hB).trans h.2.2.2⟩
/-- the elements of a slice of types whose first one lies at g, o. -/
def ElsT (w : World) (S : Nat → Prop) (g o : Nat) (ls : List Ty) : Prop := ∀ (i : Nat) (t : Ty), ls[i]? = some t → ∃ s, w.cell? ⟨g, o + i * 4, none⟩ = some (.int .i64 t.kind) ∧ w.cell? ⟨g, o + i * 4 + 1, none⟩ = some (.int .i64 t.num) ∧ w.cell? ⟨g, o + i * 4 + 2, none⟩ = some (.string t.name) ∧ w.cell? ⟨g, o + i * 4 + 3, none⟩ = some s ∧ IsA w S t.args s
/-- a slice of types that came in. -/
def ArgsT (w : World) (ls : List Ty) (v : Value) : Prop := ∃ A c, v = .slice A ls.length c ∧ ls.length ≤ c ∧ (0 < ls.length → ∃ g o, A = some ⟨g, o, none⟩ ∧ Old w g ∧ ElsT w (Old w) g o ls)
theorem argsT_of {w : World} {ls : List Ty} {v : Value} (h : IsA w (Old w) ls v) : ArgsT w ls v := h.open
/-- one element in a later world. -/
theorem ElsT.at {w W : World} {g o : Nat} {ls : List Ty} (h : ElsT w (Old w) g o ls) (hg : Old w g) (hb : Below w.heap.size w W) {k : Nat} {x : Ty} (hx : ls[k]? = some x) :
    ∃ s, W.cell? ⟨g, o + k * 4, none⟩ = some (.int .i64 x.kind) ∧ W.cell? ⟨g, o + k * 4 + 1, none⟩ = some (.int .i64 x.num) ∧ W.cell? ⟨g, o + k * 4 + 2, none⟩ = some (.string x.name) ∧ W.cell? ⟨g, o + k * 4 + 3, none⟩ = some s ∧ IsA W (Old W) x.args s := by
  obtain ⟨s, c0, c1, c2, c3, ha⟩ := h k x hx
  have hc : ∀ j, W.cell? ⟨g, j, none⟩ = w.cell? ⟨g, j, none⟩ := fun j => hb.cell (p := ⟨g, j, none⟩) hg
  exact ⟨s, by rw [hc]; exact c0, by rw [hc]; exact c1, by rw [hc]; exact c2, by rw [hc]; exact c3, ha.after hb⟩
set_option maxHeartbeats 1000000 in
theorem weight_any (n : Nat) : ∀ (t : Ty) (most : Int) (s : Value) (w : World), t.wt ≤ n → 0 ≤ most → most ≤ 1000000 → fit t → IsA w (Old w) t.args s →
    Calls Tryz.prog 16 #[tv t s, .int .i64 most] w fun e w' => e = .returned (.int .i64 (weightF most t)) ∧ Below w.heap.size w w' := by
  induction n with
  | zero => intro t most s w hn; have := Ty.wt_eq t; omega
  | succ n ih =>
    intro t most s w hn h0 hm hf hA
    obtain ⟨A, c, rfl, hc, hr⟩ := argsT_of hA
    have hbox := boxT_new w t (.slice A t.args.length c) 24
    have HR := Lib.hid hr
    have HF := Lib.hid hf
    have HN := Lib.hid hn
    have HI := Lib.hid ih
    have hs1 := hf.self.1
    have hs2 := hf.self.2
    have HE := Lib.hid (weightF_eq most t)
    obtain ⟨L, hL⟩ : ∃ L, L = t.args.length := ⟨_, rfl⟩
    have HL := Lib.hid hL
    rw [← hL] at hc hs2 hbox ⊢
    have HBX := Lib.hid hbox
    clear hr hf hA hL hbox hn ih
    obtain ⟨b0, b1, b2, b3⟩ := HBX.out
    unfold tv
    go_enter Tryz.func16, Tryz.ntmps16
    go_wp2
    obtain ⟨M, hM⟩ : ∃ M, M = w.alloc (.cells #[.int .i64 t.kind, .int .i64 t.num, .string t.name, .slice A L c] 24) := ⟨_, rfl⟩
    have HM := Lib.hid (show Below w.heap.size w M by rw [hM]; exact (Below.refl _ _).alloc (Nat.le_refl _) _)
    have HMs := Lib.hid (show M.heap.size = w.heap.size + 1 by rw [hM]; simp)
    rw [← hM] at HBX ⊢
    clear hM b0 b1 b2 b3
    go_loopw [5, 6] (fun n i wr => ∃ (k : Nat) (m : Int), k ≤ L ∧ i = .int .i64 k ∧ n = .int .i64 m ∧ 1 ≤ m ∧ m ≤ most + 8796093022000 ∧ RowKit.Hid (weightL most m (t.args.drop k) = weightF most t) ∧ RowKit.Hid (Below M.heap.size M wr)) (fun _ i _ => L - (RowKit.intOf i).toNat)
    case atStart => exact ⟨0, _, by omega, rfl, rfl, by omega, by omega, HE.out.symm, Below.refl _ _⟩
    case round =>
      obtain ⟨k, m, hk, rfl, rfl, hm1, hm2, HW, HB⟩ := hrel
      obtain ⟨b0, b1, b2, b3⟩ := HBX.out.keep HB.out (by have := HMs.out; omega)
      have HBw := Lib.hid (HM.out.trans (HB.out.mono (by have := HMs.out; omega)))
      by_cases hlt : k < L
      · by_cases hmm : m ≤ most
        · obtain ⟨g, o, rfl, hg, hr⟩ := HR.out (by have := HL.out; omega)
          obtain ⟨x, hx⟩ : ∃ x, t.args[k]? = some x := ⟨_, List.getElem?_eq_getElem (by have := HL.out; omega)⟩
          have hxm := List.mem_of_getElem? hx
          obtain ⟨sx, c0, c1, c2, c3, hax⟩ := ElsT.at hr hg HBw.out hx
          have HC := Lib.hid (HI.out x (most - m) sx wr (by have := Ty.wt_lt hxm; have := HN.out; omega) (by omega) (by omega) (HF.out.arg hxm) hax)
          obtain ⟨hx1, hx2⟩ := weight_le x (HF.out.arg hxm) (most - m) (by omega)
          have HW2 := Lib.hid (show weightL most (m + weightF (most - m) x) (t.args.drop (k + 1)) = weightF most t by
            rw [← HW.out, drop_cons hx, weightL_go hmm])
          obtain ⟨d, hd⟩ : ∃ d, d = weightF (most - m) x := ⟨_, rfl⟩
          rw [← hd] at hx1 hx2 HW2 HC
          unfold tv at HC
          clear hd hx hxm hax hr
          go_wp2_with (go_at_call 16; with_reducible (refine HC.out.mono ?_); rintro e w1 ⟨rfl, hb1⟩; have HB1 := Lib.hid hb1; clear hb1)
          go_roundw
          case rel => exact ⟨k + 1, _, by omega, by go_num, rfl, by omega, by omega, HW2.out, HB.out.trans (HB1.out.mono HB.out.size)⟩
          case measure => simp [RowKit.intOf]; omega
        · go_wp2
          go_ret
          exact ⟨ret_int (by rw [← HW.out, weightL_stop (by omega)]), HBw.out⟩
      · go_wp2
        go_ret
        exact ⟨ret_int (by rw [← HW.out, List.drop_eq_nil_of_le (by have := HL.out; omega), weightL]), HBw.out⟩
end Go.Proofs.YtmpmibebkflaiaaGreatDoor
namespace Go.Proofs.YtmpmibebkflaiaaGreatDoor
open Go.RowKit Go.Lib Tp
set_option maxRecDepth 100000
set_option linter.unusedVariables false
set_option linter.unusedSectionVars false

theorem name_eq (s z : ByteArray) : (s.toList == z.toList) = decide (s = z) := by
  rw [Lib.toList_data, Lib.toList_data, Bool.eq_iff_iff, beq_iff_eq, decide_eq_true_iff]
  constructor
  · intro h
    obtain ⟨⟨a⟩⟩ := s
    obtain ⟨⟨b⟩⟩ := z
    exact congrArg _ (congrArg Array.mk h)
  · rintro rfl; rfl
/-- two boxes behind one another. -/
theorem two_boxes (w : World) (t u : Ty) (s1 s2 : Value) (e : TypeId) : ∃ M, M = (w.alloc (.cells #[.int .i64 t.kind, .int .i64 t.num, .string t.name, s1] e)).alloc (.cells #[.int .i64 u.kind, .int .i64 u.num, .string u.name, s2] e) ∧
    BoxT t s1 w.heap.size M ∧ BoxT u s2 (w.heap.size + 1) M ∧ M.heap.size = w.heap.size + 2 ∧ Below w.heap.size w M := by
  have hbox := boxT_new w t s1 e
  obtain ⟨W1, hW1⟩ : ∃ W, W = w.alloc (.cells #[.int .i64 t.kind, .int .i64 t.num, .string t.name, s1] e) := ⟨_, rfl⟩
  rw [← hW1] at hbox
  have hbox2 := boxT_new W1 u s2 e
  have hs1 : W1.heap.size = w.heap.size + 1 := by rw [hW1]; simp
  obtain ⟨M, hM⟩ : ∃ W, W = W1.alloc (.cells #[.int .i64 u.kind, .int .i64 u.num, .string u.name, s2] e) := ⟨_, rfl⟩
  rw [← hM] at hbox2
  refine ⟨M, by rw [hM, hW1], hbox.keep (show Below W1.heap.size W1 M by rw [hM]; exact (Below.refl _ _).alloc (Nat.le_refl _) _) (by omega), by rw [← hs1]; exact hbox2, by rw [hM]; simp [hs1], by rw [hM, hW1]; exact ((Below.refl _ _).alloc (Nat.le_refl _) _).alloc (by simp) _⟩
theorem drewN_below (w : World) (q : Nat) : Below w.heap.size w (w.drewN q) := below_drewN (Below.refl _ _) q
set_option maxHeartbeats 1000000 in
theorem sameType_any (n : Nat) : ∀ (t u : Ty) (s1 s2 : Value) (w : World), t.wt ≤ n → fit t → IsA w (Old w) t.args s1 → IsA w (Old w) u.args s2 →
    Calls Tryz.prog 11 #[tv t s1, tv u s2] w fun e w' => e = .returned (.bool (sameF t u)) ∧ Below w.heap.size w w' := by
  induction n with
  | zero => intro t u s1 s2 w hn; have := Ty.wt_eq t; omega
  | succ n ih =>
    intro t u s1 s2 w hn hf hA1 hA2
    obtain ⟨A1, c1, rfl, hc1, hr1⟩ := argsT_of hA1
    obtain ⟨A2, c2, rfl, hc2, hr2⟩ := argsT_of hA2
    obtain ⟨M, hMe, hbx, hby, hMs, hMb⟩ := two_boxes w t u (.slice A1 t.args.length c1) (.slice A2 u.args.length c2) 24
    have HBX := Lib.hid hbx
    have HBY := Lib.hid hby
    have HM := Lib.hid hMb
    have HMs := Lib.hid hMs
    have HR1 := Lib.hid hr1
    have HR2 := Lib.hid hr2
    have HF := Lib.hid hf
    have HN := Lib.hid hn
    have HI := Lib.hid ih
    have hsz := hf.self.2
    have HE := Lib.hid (sameF_eq t u)
    have HME := Lib.hid hMe
    clear hr1 hr2 hf hA1 hA2 hn ih hbx hby hMe hMs hMb
    obtain ⟨k, m, z, as1⟩ := t
    obtain ⟨k', m', z', as2⟩ := u
    simp only [Ty.kind, Ty.num, Ty.name, Ty.args] at *
    simp only [tv, Ty.kind, Ty.num, Ty.name]
    by_cases hk : k = k'
    case neg =>
      have HE2 := Lib.hid (HE.out.trans (by simp [hk] : _ = false))
      go_enter Tryz.func11, Tryz.ntmps11
      go_wp2
      go_ret
      rw [HE2.out]
      exact ⟨rfl, HME.out ▸ HM.out⟩
    subst hk
    by_cases hm : m = m'
    case neg =>
      have HE2 := Lib.hid (HE.out.trans (by simp [hm] : _ = false))
      go_enter Tryz.func11, Tryz.ntmps11
      go_wp2
      go_ret
      rw [HE2.out]
      exact ⟨rfl, HME.out ▸ HM.out⟩
    subst hm
    by_cases hz : z = z'
    case neg =>
      have HE2 := Lib.hid (HE.out.trans (by simp [hz] : _ = false))
      have hzb : (z.toList == z'.toList) = false := by rw [name_eq]; simp [hz]
      have HZ := Lib.hid hz
      clear hz
      go_enter Tryz.func11, Tryz.ntmps11
      go_wp2
      go_ret
      rw [HE2.out]
      exact ⟨rfl, HME.out ▸ HM.out⟩
    subst hz
    by_cases hl : as1.length = as2.length
    case neg =>
      have HE2 := Lib.hid (HE.out.trans (by simp [sameFs_len hl] : _ = false))
      have hlb : ((as1.length : Int) != (as2.length : Int)) = true := by simp; omega
      go_enter Tryz.func11, Tryz.ntmps11
      go_wp2
      go_ret
      rw [HE2.out]
      exact ⟨rfl, HME.out ▸ HM.out⟩
    have HE3 := Lib.hid (HE.out.trans (by simp : _ = sameFs as1 as2))
    obtain ⟨L, hL⟩ : ∃ L, L = as1.length := ⟨_, rfl⟩
    rw [← hl] at HBY HR2 HME hc2 ⊢
    rw [← hL] at HBX HBY HR1 HR2 HME hc1 hc2 hsz ⊢
    have HL := Lib.hid hL
    have HLL := Lib.hid hl
    clear hL hl HE
    go_enter Tryz.func11, Tryz.ntmps11
    go_wp2
    rw [← HME.out]
    go_loopw [5] (fun i wr => ∃ k : Nat, k ≤ L ∧ i = .int .i64 k ∧ RowKit.Hid (sameFs (as1.drop k) (as2.drop k) = sameFs as1 as2) ∧ RowKit.Hid (Below M.heap.size M wr)) (fun i _ => L - (RowKit.intOf i).toNat)
    case atStart => exact ⟨0, by omega, rfl, rfl, Below.refl _ _⟩
    case round =>
      obtain ⟨j, hj, rfl, HS, HB⟩ := hrel
      obtain ⟨a0, a1, a2, a3⟩ := HBX.out.keep HB.out (by have := HMs.out; omega)
      obtain ⟨b0, b1, b2, b3⟩ := HBY.out.keep HB.out (by have := HMs.out; omega)
      have HBw := Lib.hid (HM.out.trans (HB.out.mono (by have := HMs.out; omega)))
      by_cases hlt : j < L
      · obtain ⟨g1, o1, rfl, hg1, hr1⟩ := HR1.out (by omega)
        obtain ⟨g2, o2, rfl, hg2, hr2⟩ := HR2.out (by omega)
        obtain ⟨x, hx⟩ : ∃ x, as1[j]? = some x := ⟨_, List.getElem?_eq_getElem (by have := HL.out; omega)⟩
        obtain ⟨y, hy⟩ : ∃ y, as2[j]? = some y := ⟨_, List.getElem?_eq_getElem (by have := HL.out; have := HLL.out; omega)⟩
        have hxm := List.mem_of_getElem? hx
        obtain ⟨sx, c0, c1, c2, c3, hax⟩ := ElsT.at hr1 hg1 HBw.out hx
        obtain ⟨sy, d0, d1, d2, d3, hay⟩ := ElsT.at hr2 hg2 HBw.out hy
        have HC := Lib.hid (fun W (hW : Below wr.heap.size wr W) => HI.out x y sx sy W (by have := Ty.wt_lt (t := .mk k m z as1) hxm; have := HN.out; omega) (HF.out.arg (t := .mk k m z as1) hxm) (hax.after hW) (hay.after hW))
        have HS2 := Lib.hid (show (sameF x y && sameFs (as1.drop (j + 1)) (as2.drop (j + 1))) = sameFs as1 as2 by
          rw [← HS.out, drop_cons hx, drop_cons hy, sameFs_cons])
        unfold tv at HC
        obtain ⟨b, hb⟩ : ∃ b, b = sameF x y := ⟨_, rfl⟩
        rw [← hb] at HC HS2
        clear hb hx hy hxm hax hay hr1 hr2
        have hg1' : g1 < wr.heap.size := by have := HBw.out.size; unfold Old at hg1; omega
        have hg2' : g2 < wr.heap.size := by have := HBw.out.size; unfold Old at hg2; omega
        have hMl : w.heap.size + 2 ≤ wr.heap.size := by have := HB.out.size; have := HMs.out; omega
        go_wp2
        go_region_with (go_at_call 11; with_reducible (refine (HC.out _ (Below.drew (Below.refl _ _))).mono ?_); rintro e w1 ⟨rfl, hb1⟩; have HB1 := Lib.hid hb1; clear hb1)
        all_goals
          have HBB := Lib.hid (HB.out.trans ((show Below wr.heap.size wr w1 from (Below.drew (Below.refl _ _)).trans HB1.out).mono HB.out.size))
          cases b
          · go_wp2
            go_ret
            rw [HE3.out, ← HS2.out]
            exact ⟨rfl, HM.out.trans (HBB.out.mono (by have := HMs.out; omega))⟩
          · go_wp2
            go_roundw
            case rel => exact ⟨j + 1, by omega, by go_num, HS2.out, HBB.out⟩
            case measure => simp [RowKit.intOf]; omega
      · go_wp2
        go_ret
        rw [HE3.out, ← HS.out]
        refine ⟨ret_bool ?_, HBw.out⟩
        rw [List.drop_eq_nil_of_le (by have := HL.out; omega), List.drop_eq_nil_of_le (by have := HL.out; have := HLL.out; omega)]
        exact sameFs_nil.symm
end Go.Proofs.YtmpmibebkflaiaaGreatDoor
