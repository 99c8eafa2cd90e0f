/- Boxes, alive at a later world, substituted types. -/
import Derived.Test.YtmpmibebkflaiaaGreatDoorTypOp
import Derived.Test.YtmpmibebkflaiaaGreatDoorTypTab
import Derived.Deep.CutRange
import Derived.Deep.RegionHeld3
namespace Go.Proofs.YtmpmibebkflaiaaGreatDoor
open Go.RowKit Go.Lib Go.Shelf Go.Sort Tp
set_option maxRecDepth 100000
set_option linter.unusedVariables false
set_option linter.unusedSectionVars false

theorem alive_at {w W : World} (hT : Tabs w) (hb : Below w.heap.size w W) : Calls Tryz.prog 4 #[] W fun e w' => e = .returned (.bool true) ∧ Below W.heap.size W w' :=
  alive_any W (by obtain ⟨a, b, c⟩ := hT.2.on hb; have := hb.size; exact ⟨by omega, by omega, c⟩) (PowB.more (hT.1.on hb) hb.size)
theorem one_box (w : World) (t : Ty) (s1 : Value) (e : TypeId) : ∃ M, M = w.alloc (.cells #[.int .i64 t.kind, .int .i64 t.num, .string t.name, s1] e) ∧
    BoxT t s1 w.heap.size M ∧ M.heap.size = w.heap.size + 1 ∧ Below w.heap.size w M :=
  ⟨_, rfl, boxT_new w t s1 e, by simp, (Below.refl _ _).alloc (Nat.le_refl _) _⟩
theorem three_boxes (w : World) (t u v : Ty) (s1 s2 s3 : Value) (e : TypeId) : ∃ M, M = ((w.alloc (.cells #[.int .i64 t.kind, .int .i64 t.num, .string t.name, s1] e)).alloc (.cells #[.int .i64 u.kind, .int .i64 u.num, .string u.name, s2] e)).alloc (.cells #[.int .i64 v.kind, .int .i64 v.num, .string v.name, s3] e) ∧
    BoxT t s1 w.heap.size M ∧ BoxT u s2 (w.heap.size + 1) M ∧ BoxT v s3 (w.heap.size + 2) M ∧ M.heap.size = w.heap.size + 3 ∧ Below w.heap.size w M := by
  obtain ⟨W, hW, h1, h2, hs, hb⟩ := two_boxes w t u s1 s2 e
  refine ⟨_, by rw [← hW], ?_, ?_, ?_, by simp [hs], hb.trans ((Below.refl _ _).alloc (by omega) _)⟩
  · exact h1.keep ((Below.refl W.heap.size W).alloc (Nat.le_refl _) _) (by omega)
  · exact h2.keep ((Below.refl W.heap.size W).alloc (Nat.le_refl _) _) (by omega)
  · have := boxT_new W v s3 e
    rw [hs] at this
    exact this
/-- the cells of a box, at a later world. -/
theorem box_at {M W : World} {t : Ty} {s : Value} {B : Nat} (h : BoxT t s B M) (hs : B < M.heap.size) (hb : Below M.heap.size M W) :
    W.cell? ⟨B, 0, none⟩ = some (.int .i64 t.kind) ∧ W.cell? ⟨B, 1, none⟩ = some (.int .i64 t.num) ∧ W.cell? ⟨B, 2, none⟩ = some (.string t.name) ∧ W.cell? ⟨B, 3, none⟩ = some s := h.keep hb hs


/-- the parts of a type whose variables stand for others. -/
theorem parts_subst (t : Ty) : ∀ {σ : Int → Ty} {p : Ty}, p ∈ parts (subst σ t) → (∃ q ∈ parts t, q.kind ≠ 1 ∧ p.name = q.name ∧ p.args.length = q.args.length) ∨ (∃ q ∈ parts t, q.kind = 1 ∧ p ∈ parts (σ q.num)) := by
  refine Ty.ind (P := fun t => ∀ {σ : Int → Ty} {p : Ty}, p ∈ parts (subst σ t) → (∃ q ∈ parts t, q.kind ≠ 1 ∧ p.name = q.name ∧ p.args.length = q.args.length) ∨ (∃ q ∈ parts t, q.kind = 1 ∧ p ∈ parts (σ q.num))) (fun t ih => ?_) t
  intro σ p hp
  by_cases hk : t.kind = 1
  · rw [subst_var hk] at hp
    exact .inr ⟨t, parts_self t, hk, hp⟩
  · rw [subst_con hk, parts_eq, partss_eq] at hp
    rcases List.mem_cons.1 hp with rfl | hp
    · exact .inl ⟨t, parts_self t, hk, rfl, by simp [Ty.args]⟩
    · obtain ⟨y, hy, hpy⟩ := List.mem_flatMap.1 hp
      obtain ⟨x, hx, rfl⟩ := List.mem_map.1 (show y ∈ t.args.map (subst σ) from hy)
      rcases ih x hx hpy with ⟨q, hq, h⟩ | ⟨q, hq, h⟩
      · exact .inl ⟨q, parts_mem hx hq, h⟩
      · exact .inr ⟨q, parts_mem hx hq, h⟩
theorem fit_subst {t : Ty} {σ : Int → Ty} (hf : fit t) (h : ∀ n, fit (σ n)) : fit (subst σ t) := by
  intro p hp
  rcases parts_subst t hp with ⟨q, hq, -, h1, h2⟩ | ⟨q, hq, -, h1⟩
  · rw [h1, h2]
    exact hf q hq
  · exact h _ p h1
theorem fit_close {t : Ty} (hf : fit t) (h : rightF nameB t = true) : fit (closeF t) := by
  rw [close_eq (right_ok h).1]
  exact fit_subst hf fun n => fit_var _
theorem wf_small {n : Int} (h0 : 0 ≤ n) (h : n < 1073741824) : (Lit.int .i64 n).wf = true := by
  simp only [Lit.wf, Bool.and_eq_true, decide_eq_true_iff]
  have e1 : IntKind.i64.min = -9223372036854775808 := by decide
  have e2 : IntKind.i64.max = 9223372036854775807 := by decide
  rw [e1, e2]
  omega
theorem take_at {P : Program} {md : Region.Mode} {ops : Array Oper} {Q : Exit → Act → World → Prop} {S : World → Prop} {i : Nat} {oi : Oper} {d : Option Tmp} {v : Value} {fuel : Nat} {listed : Array Bool} {a : Act} {w : World} (hi : ops[i]? = some oi) (hd : oi.dst = d)
    (hs : Region.noSelect ops = true) (hf : Region.free md ops listed i = true) (hr : (Region.ready md ops listed).contains i = true)
    (hQ : ∀ c a w, Q (.panic c) (a.put d v) w → Q (.panic c) a w) (hy : YieldsIf P ops S oi v a) (hS : S w)
    (h : wpAnyH P md ops Q S fuel (listed.setIfInBounds i true) (a.put d v) w) : wpAnyH P md ops Q S (fuel + 1) listed a w := by
  subst hd
  exact wpAnyH_take hi hs hf hr hQ hy hS h
theorem keepW {wb w' w'' : World} (hb : RowKit.Hid (Below w'.heap.size w' w'')) (h : RowKit.Hid (Below wb.heap.size wb w')) : RowKit.Hid (Below wb.heap.size wb w'') := h.out.trans (hb.out.mono h.out.size)
theorem numsOk_ok {t : Ty} (h : okT nameB t) : numsOk t := by
  intro p hp
  have h1 := h p hp
  by_cases hk : p.kind = 1
  · have := (rp_var h1 hk).2
    exact wf_small (by omega) (by omega)
  · rw [rp_num h1 hk]
    decide
end Go.Proofs.YtmpmibebkflaiaaGreatDoor
