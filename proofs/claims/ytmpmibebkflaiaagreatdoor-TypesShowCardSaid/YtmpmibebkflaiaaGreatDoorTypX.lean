/- Closing asx the code does it: variables numbered asx they come. The contracts of types' Close and of what it calls. The contracts of types' replace and Close. The contract of types' Close. -/
import Derived.Test.YtmpmibebkflaiaaGreatDoorTypC
import Derived.Test.YtmpmibebkflaiaaGreatDoorTypR
import Derived.Test.YtmpmibebkflaiaaGreatDoorTypT
import Derived.Test.YtmpmibebkflaiaaGreatDoorMaq
import Derived.Laws.MakeOwn
namespace Go.Proofs.YtmpmibebkflaiaaGreatDoor
namespace Tp
open Ty
/-- a variable's number, and the list behind it. -/
def idx (met : List Int) (n : Int) : Nat := (place met n).getD met.length
def metN (met : List Int) (n : Int) : List Int := if met.contains n then met else met ++ [n]
mutual
def repl (met : List Int) : Ty → Ty × List Int
  | .mk k n s asx => if k = 1 then (var (idx met n), metN met n) else (.mk k n s (repls met asx).1, (repls met asx).2)
def repls (met : List Int) : List Ty → List Ty × List Int
  | [] => ([], met)
  | t :: ts => ((repl met t).1 :: (repls (repl met t).2 ts).1, (repls (repl met t).2 ts).2)
end
theorem repl_eq (met : List Int) (t : Ty) : repl met t = if t.kind = 1 then (var (idx met t.num), metN met t.num) else (.mk t.kind t.num t.name (repls met t.args).1, (repls met t.args).2) := by
  cases t; rw [repl]; rfl
theorem repl_var {t : Ty} (met : List Int) (h : t.kind = 1) : repl met t = (var (idx met t.num), metN met t.num) := by rw [repl_eq, if_pos h]
theorem repl_con {t : Ty} (met : List Int) (h : t.kind ≠ 1) : repl met t = (.mk t.kind t.num t.name (repls met t.args).1, (repls met t.args).2) := by rw [repl_eq, if_neg h]
theorem repls_len (asx : List Ty) : ∀ met, (repls met asx).1.length = asx.length := by
  induction asx with
  | nil => intro met; rw [repls]
  | cons a asx ih => intro met; rw [repls, List.length_cons, ih, List.length_cons]
theorem repls_snoc (asx : List Ty) (x : Ty) : ∀ met, repls met (asx ++ [x]) = ((repls met asx).1 ++ [(repl (repls met asx).2 x).1], (repl (repls met asx).2 x).2) := by
  induction asx with
  | nil => intro met; simp [repls]
  | cons a asx ih => intro met; rw [List.cons_append, repls, ih, repls]; simp
theorem repls_nil (met : List Int) : repls met [] = ([], met) := by rw [repls]
theorem repl_met (t : Ty) : ∀ met, (repl met t).2 = vars met t := by
  refine Ty.ind (P := fun t => ∀ met, (repl met t).2 = vars met t) (fun t ih => ?_) t
  intro met
  rw [vars_eq]
  by_cases hk : t.kind = 1
  · rw [repl_var met hk, if_pos hk]; rfl
  · rw [repl_con met hk, if_neg hk]
    show (repls met t.args).2 = _
    have key : ∀ asx : List Ty, (∀ x ∈ asx, ∀ met, (repl met x).2 = vars met x) → ∀ met, (repls met asx).2 = asx.foldl vars met := by
      intro asx
      induction asx with
      | nil => intro _ met; rw [repls]; rfl
      | cons a asx ih2 =>
        intro h met
        rw [repls, List.foldl_cons, ih2 (fun x hx => h x (by simp [hx])), h a (by simp)]
    exact key _ ih met
theorem repls_met (asx : List Ty) : ∀ met, (repls met asx).2 = asx.foldl vars met := by
  induction asx with
  | nil => intro met; rw [repls]; rfl
  | cons a asx ih => intro met; rw [repls, List.foldl_cons, ih, repl_met]
theorem vars_pre (t : Ty) : ∀ met, met <+: vars met t := by
  refine Ty.ind (P := fun t => ∀ met, met <+: vars met t) (fun t ih => ?_) t
  intro met
  rw [vars_eq]
  by_cases hk : t.kind = 1
  · rw [if_pos hk]
    split
    · exact List.prefix_refl _
    · exact List.prefix_append _ _
  · rw [if_neg hk]
    have key : ∀ asx : List Ty, (∀ x ∈ asx, ∀ met, met <+: vars met x) → ∀ met, met <+: asx.foldl vars met := by
      intro asx
      induction asx with
      | nil => intro _ met; exact List.prefix_refl _
      | cons a asx ih2 =>
        intro h met
        rw [List.foldl_cons]
        exact (h a (by simp) met).trans (ih2 (fun x hx => h x (by simp [hx])) _)
    exact key _ ih met
theorem place_pre {l m : List Int} {n : Int} (hp : l <+: m) (h : n ∈ l) : place m n = place l n := by
  obtain ⟨r, rfl⟩ := hp
  obtain ⟨i, hi, -⟩ := place_some h
  unfold place at *
  rw [List.findIdx?_append, hi]
  rfl
theorem place_none {l : List Int} {n : Int} (h : n ∉ l) : place l n = none := by
  unfold place
  rw [List.findIdx?_eq_none_iff]
  intro x hx
  simp only [beq_eq_false_iff_ne, ne_eq]
  rintro rfl
  exact h hx
theorem idx_next {met : List Int} {n : Int} : place (metN met n) n = some (idx met n) := by
  unfold metN idx
  by_cases h : n ∈ met
  · rw [if_pos (by simpa using h)]
    obtain ⟨i, hi, -⟩ := place_some h
    rw [hi]; rfl
  · rw [if_neg (by simpa using h), place_none h]
    unfold place
    rw [List.findIdx?_append]
    have := place_none h
    unfold place at this
    rw [this]
    simp
theorem repl_fst {isName : ByteArray → Bool} (t : Ty) : okT isName t → ∀ met fin, vars met t <+: fin → (repl met t).1 = renamed fin t := by
  refine Ty.ind (P := fun t => okT isName t → ∀ met fin, vars met t <+: fin → (repl met t).1 = renamed fin t) (fun t ih => ?_) t
  intro ho met fin hp
  by_cases hk : t.kind = 1
  · rw [repl_var met hk]
    unfold renamed
    rw [subst_var hk]
    rw [vars_eq, if_pos hk] at hp
    have hm : t.num ∈ metN met t.num := by
      unfold metN
      split
      · rename_i h; simpa using h
      · simp
    have := place_pre (l := metN met t.num) hp hm
    rw [idx_next] at this
    rw [this]
  · rw [repl_con met hk]
    unfold renamed
    rw [subst_con hk]
    rw [vars_eq, if_neg hk] at hp
    show Ty.mk _ _ _ (repls met t.args).1 = _
    congr 1
    have key : ∀ asx : List Ty, (∀ x ∈ asx, ∀ met fin, vars met x <+: fin → (repl met x).1 = renamed fin x) → ∀ met, asx.foldl vars met <+: fin → (repls met asx).1 = asx.map (renamed fin) := by
      intro asx
      induction asx with
      | nil => intro _ met _; rw [repls]; rfl
      | cons a asx ih2 =>
        intro h met hp
        rw [List.foldl_cons] at hp
        have hpre : vars met a <+: asx.foldl vars (vars met a) := by
          have : ∀ bs : List Ty, ∀ m, m <+: bs.foldl vars m := by
            intro bs
            induction bs with
            | nil => intro m; exact List.prefix_refl _
            | cons b bs ihb => intro m; exact (vars_pre b m).trans (ihb _)
          exact this asx _
        rw [repls, List.map_cons, h a (by simp) met fin (hpre.trans hp), repl_met, ih2 (fun x hx => h x (by simp [hx])) _ hp]
    exact key _ (fun x hx => ih x hx (ho.arg hx)) met hp
theorem repl_close {isName : ByteArray → Bool} {t : Ty} (ho : okT isName t) : repl [] t = (closeF t, vars [] t) := by
  have h1 := repl_met t []
  have h2 := repl_fst t ho [] (vars [] t) (List.prefix_refl _)
  exact Prod.ext h2 h1
end Tp
end Go.Proofs.YtmpmibebkflaiaaGreatDoor
namespace Go.Proofs.YtmpmibebkflaiaaGreatDoor
open Go.RowKit Go.Lib Tp Go.Maps
set_option maxRecDepth 100000
set_option linter.unusedVariables false
set_option linter.unusedSectionVars false

def numF (met : List Int) : List (Lit × Value) := met.zipIdx.map fun p => (Lit.int .i64 p.1, Value.int .i64 (p.2 : Nat))
theorem find_zip (n : Int) : ∀ (l : List Int) (k : Nat), (l.zipIdx k).find? (fun p => p.1 == n) = (l.findIdx? (fun x => x == n)).map (fun i => (n, i + k))
  | [], k => rfl
  | a :: l, k => by
    rw [List.zipIdx_cons, List.find?_cons, List.findIdx?_cons, find_zip n l (k + 1)]
    by_cases h : a = n
    · subst h; simp
    · have : (a == n) = false := by simpa using h
      simp only [this]
      cases l.findIdx? (fun x => x == n) with
      | none => rfl
      | some i => simp; omega
theorem numF_look (met : List Int) (n : Int) : lookL (numF met) (.int .i64 n) = (place met n).map (fun i => Value.int .i64 (i : Nat)) := by
  unfold lookL numF place
  rw [List.find?_map]
  have : ((fun p : Lit × Value => p.1.sameKey (.int .i64 n)) ∘ fun p : Int × Nat => (Lit.int .i64 p.1, Value.int .i64 (p.2 : Nat))) = fun p => p.1 == n := by
    funext p
    show decide (IntKind.i64 = IntKind.i64 ∧ p.1 = n) = (p.1 == n)
    by_cases h : p.1 = n <;> simp [h]
  rw [this, find_zip]
  cases met.findIdx? (fun x => x == n) with
  | none => rfl
  | some i => simp
theorem numF_snoc (met : List Int) (n : Int) : numF (met ++ [n]) = numF met ++ [(.int .i64 n, .int .i64 met.length)] := by
  unfold numF
  rw [List.zipIdx_append, List.map_append]
  simp
theorem numF_len (met : List Int) : (numF met).length = met.length := by simp [numF]
theorem keyInt : Keyed Tryz.prog 3 := int_keyed Tryz.underlying3
theorem zeroInt (w : World) : (zeroValue 3).run Tryz.prog w = .ok (.int .i64 0) w := by kernel_rfl
theorem keyOfInt {n : Int} (h : (Lit.int .i64 n).wf = true) : keyOf Tryz.prog 3 (.int .i64 n) = some (.int .i64 n) := keyOf_int_mk Tryz.underlying3 h
set_option maxHeartbeats 1000000 in
theorem become_any (Bm mb : Nat) (met : List Int) (n : Int) (W : World) (hwf : (Lit.int .i64 n).wf = true) (hc : W.cell? ⟨Bm, 0, none⟩ = some (.map (some mb))) (hm : MapV Tryz.prog 3 W mb (numF met)) (hl : met.length ≤ 1000000) :
    Calls Tryz.prog 18 #[.int .i64 n, .pointer (some ⟨Bm, 0, none⟩)] W fun e w' => e = .returned (tv (var (idx met n)) (.slice none 0 0)) ∧ RowKit.Hid (MapV Tryz.prog 3 w' mb (numF (metN met n))) ∧ W.grownBy w' (some mb) := by
  have hal := World.grownBy_alloc W (.cells #[.int .i64 0, .int .i64 0, .string ⟨#[]⟩, .slice none 0 0] 24) none
  have hbl := heap_alloc_new W (.cells #[.int .i64 0, .int .i64 0, .string ⟨#[]⟩, .slice none 0 0] 24)
  have hm1 := hm.kept hal (by simp)
  have hlt := hm.lt
  have hBm : Bm < W.heap.size := by
    obtain ⟨o, ho, -⟩ := cell_isCells hc
    exact (Array.getElem?_eq_some_iff.1 ho).1
  obtain ⟨W1, hW1⟩ : ∃ W1, W1 = W.alloc (.cells #[.int .i64 0, .int .i64 0, .string ⟨#[]⟩, .slice none 0 0] 24) := ⟨_, rfl⟩
  have hW1s : W1.heap.size = W.heap.size + 1 := by rw [hW1]; simp
  rw [← hW1] at hal hbl hm1
  have hc1 : W1.cell? ⟨Bm, 0, none⟩ = some (.map (some mb)) := by
    rw [← hc]
    exact World.cell?_of_block (w := W) (hal.block Bm hBm (by simp))
  have hrow : ∀ (w' : World), W1.grownBy w' (some mb) → w'.heap[W.heap.size]? = some (.cells #[.int .i64 0, .int .i64 0, .string ⟨#[]⟩, .slice none 0 0] 24) := fun w' hg =>
    (hg.block W.heap.size (by omega) (fun e => by cases e; omega)).trans hbl
  have HROW := Lib.hid hrow
  have HAL := Lib.hid hal
  have HW1 := Lib.hid hW1
  have hput : ∀ (a b c d : Value) (w' : World), W1.grownBy w' (some mb) → W.grownBy (put4 w' W.heap.size a b c d) (some mb) := fun a b c d w' hg => by
    refine ⟨hg.os.trans hal.os, hg.tape.trans hal.tape, hg.output.trans hal.output, by rw [put4_size]; have := hg.size; omega, fun k hk hne => ?_⟩
    rw [put4_other (by omega), hg.block k (by omega) hne, hal.block k hk (by simp)]
  have HPUT := Lib.hid hput
  clear hrow hput
  by_cases hin : n ∈ met
  · obtain ⟨i, hi, hil, -⟩ := place_some hin
    have hlook := numF_look met n
    rw [hi] at hlook
    have hrun := hm1.yes keyInt Tryz.underlying36 (zeroInt W1) (keyOfInt hwf) hlook
    have HI := Lib.hid (show idx met n = i by unfold idx; rw [hi]; rfl)
    have HN := Lib.hid (show metN met n = met by unfold metN; rw [if_pos (by simpa using hin)])
    have hm0 := hm
    rw [hW1] at hrun hc1
    clear hm hm1 hlook hi hal hbl hW1
    go_enter Tryz.func18, Tryz.ntmps18
    go_wp2
    refine bodyPost_ret (v := tv (var (idx met n)) (.slice none 0 0)) ?_ rfl ?_
    · rw [HI.out]
      exact results_cell_row rfl _ _ W.heap.size 24 #[.int .i64 1, .int .i64 i, .string ⟨#[]⟩, .slice none 0 0] (0, 0) _ rfl (heap_alloc_new W _) Tryz.underlying24 rfl infoTy4
    · refine ⟨rfl, ?_, (World.grownBy_alloc W _ none).but _⟩
      rw [HN.out]
      exact hm0.kept (World.grownBy_alloc W _ none) (by simp)
  · have hnone := place_none hin
    have hlook := numF_look met n
    rw [hnone] at hlook
    have hrun := hm1.no keyInt Tryz.underlying36 (zeroInt W1) (keyOfInt hwf) hlook
    have hlen := fun ty => hm1.len Tryz.underlying36 ty
    rw [numF_len] at hlen
    obtain ⟨w', hupd, hmv, hg⟩ := hm1.put keyInt Tryz.underlying36 (by rw [numF_len]; unfold maxLen; omega) (keyOfInt hwf) trivial hlook (.int .i64 met.length)
    rw [← numF_snoc] at hmv
    have hc2 : w'.cell? ⟨Bm, 0, none⟩ = some (.map (some mb)) := by
      rw [← hc1]
      refine World.cell?_of_block (w := W1) (hg.block Bm (by omega) (fun e => ?_))
      simp only [Option.some.injEq] at e
      obtain ⟨o, ho, hc⟩ := cell_isCells hc
      subst e
      obtain ⟨D, ⟨es, clock, hb, -⟩, -⟩ := hm
      rw [hb] at ho
      cases ho
      simp [Obj.isCells] at hc
    have HI := Lib.hid (show idx met n = met.length by unfold idx; rw [hnone]; rfl)
    have HN := Lib.hid (show metN met n = met ++ [n] by unfold metN; rw [if_neg (by simpa using hin)])
    have HMV := Lib.hid hmv
    have HG := Lib.hid hg
    obtain ⟨⟨r0, r1, r2, r3⟩, fr0, fr1, fr2, fr3⟩ := row4 (HROW.out w' hg)
    rw [hW1] at hrun hc1 hlen hupd
    clear hm hm1 hlook hnone hal hbl hW1 hmv hg
    go_enter Tryz.func18, Tryz.ntmps18
    go_wp2
    refine bodyPost_ret (v := tv (var (idx met n)) (.slice none 0 0)) ?_ rfl ?_
    · rw [HI.out]
      exact results_cell_row rfl _ _ W.heap.size 24 #[.int .i64 1, .int .i64 met.length, .string ⟨#[]⟩, .slice none 0 0] (0, 0) _ rfl (put4_blk (HROW.out w' HG.out) _ _ _ _) Tryz.underlying24 rfl infoTy4
    · refine ⟨rfl, ?_, HPUT.out _ _ _ _ w' HG.out⟩
      rw [HN.out]
      exact HMV.out.same (put4_other (by omega) _ _ _ _)
end Go.Proofs.YtmpmibebkflaiaaGreatDoor
namespace Go.Proofs.YtmpmibebkflaiaaGreatDoor
open Go.RowKit Go.Lib Tp Go.Maps
set_option maxRecDepth 100000
set_option linter.unusedVariables false
set_option linter.unusedSectionVars false

theorem vars_len0 (t : Ty) : ∀ met, (vars met t).length ≤ met.length + t.wt := by
  refine Ty.ind (P := fun t => ∀ met, (vars met t).length ≤ met.length + t.wt) (fun t ih => ?_) t
  intro met
  rw [vars_eq, Ty.wt_eq]
  by_cases hk : t.kind = 1
  · rw [if_pos hk]
    split
    · omega
    · rw [List.length_append]; simp
  · rw [if_neg hk]
    have key : ∀ ls : List Ty, (∀ x ∈ ls, ∀ met, (vars met x).length ≤ met.length + x.wt) → ∀ met, (ls.foldl vars met).length ≤ met.length + Ty.wts ls := by
      intro ls
      induction ls with
      | nil => intro _ met; simp [Ty.wts]
      | cons a ls ih2 =>
        intro h met
        rw [List.foldl_cons, Ty.wts]
        have := ih2 (fun x hx => h x (by simp [hx])) (vars met a)
        have := h a (by simp) met
        omega
    have := key _ ih met
    omega
theorem wts_take : ∀ {l : List Ty} {k : Nat} {x : Ty}, l[k]? = some x → Ty.wts (l.take k) + x.wt ≤ Ty.wts l
  | a :: l, 0, x, h => by
    simp at h
    subst h
    rw [List.take_zero, Ty.wts, Ty.wts]; omega
  | a :: l, k + 1, x, h => by
    have := wts_take (l := l) (k := k) (x := x) (by simpa using h)
    rw [List.take_succ_cons, Ty.wts, Ty.wts]; omega
def numsOk (t : Ty) : Prop := ∀ p ∈ parts t, (Lit.int .i64 p.num).wf = true
theorem numsOk.arg {t x : Ty} (h : numsOk t) (hx : x ∈ t.args) : numsOk x := fun p hp => h p (parts_mem hx hp)
theorem Tys.made {W : World} {B n : Nat} (S : Nat → Prop) (hn : n ≤ 2513169434843) (hB : B ≤ W.heap.size) (z : Array Value) : Tys B S [] (.slice (some ⟨W.heap.size, 0, none⟩) 0 n) (W.alloc (Obj.cells (madeCells z (n * 4)) 24)) :=
  ⟨[], rfl, by
    have := World.ownsRow_made (e := 24) (size := 4) W (madeCells z (n * 4)) n hB (by unfold maxLen; omega) (by rw [size_madeCells])
    simpa [psCells] using this, by simp⟩
theorem Off.of_map {W : World} {mb : Nat} {P : Program} {k : TypeId} {f : List (Lit × Value)} {ls : List Ty} {v : Value} (h : IsA W (Old W) ls v) (hm : MapV P k W mb f) : IsA W (Off (fun g => g = mb) W) ls v := by
  have hno : ∀ a u, W.cell? a = some u → a.block ≠ mb := fun a u hu e => by
    obtain ⟨o, ho, hc⟩ := cell_isCells hu
    obtain ⟨D, ⟨es, clock, hb, -⟩, -⟩ := hm
    rw [e, hb] at ho
    cases ho
    simp [Obj.isCells] at hc
  induction h with
  | mk ls A n c g o f hn hc hA hcell hrec ih =>
    refine .mk ls A n c g o f hn hc (fun h0 => ⟨(hA h0).1, ?_, (hA h0).2⟩) hcell ih
    exact hno ⟨g, o + 0 * 4, none⟩ _ (hcell 0 ls[0] (List.getElem?_eq_getElem (by omega))).1
theorem IsA.grown {W w' : World} {mb : Nat} {ls : List Ty} {v : Value} (h : IsA W (Off (fun g => g = mb) W) ls v) (hg : W.grownBy w' (some mb)) : IsA w' (Off (fun g => g = mb) w') ls v :=
  (h.same fun g hg' => hg.block g hg'.2 (fun e => hg'.1 (by cases e; rfl))).weak fun g hg' => ⟨hg'.1, Nat.lt_of_lt_of_le hg'.2 hg.size⟩
/-- below block B the world is asx it was, but for block mb. -/
def BelowX (B mb : Nat) (w w' : World) : Prop := w'.os = w.os ∧ w'.tape = w.tape ∧ w'.output = w.output ∧ w.heap.size ≤ w'.heap.size ∧ ∀ k, k < B → k ≠ mb → w'.heap[k]? = w.heap[k]?
theorem BelowX.refl (B mb : Nat) (w : World) : BelowX B mb w w := ⟨rfl, rfl, rfl, Nat.le_refl _, fun _ _ _ => rfl⟩
theorem BelowX.trans {B mb : Nat} {a b c : World} (h : BelowX B mb a b) (k : BelowX B mb b c) : BelowX B mb a c :=
  ⟨k.1.trans h.1, k.2.1.trans h.2.1, k.2.2.1.trans h.2.2.1, Nat.le_trans h.2.2.2.1 k.2.2.2.1, fun i hi hne => (k.2.2.2.2 i hi hne).trans (h.2.2.2.2 i hi hne)⟩
theorem BelowX.of_below {B mb : Nat} {a b : World} (h : Below B a b) : BelowX B mb a b := ⟨h.os, h.tape, h.output, h.size, fun k hk _ => h.block k hk⟩
theorem BelowX.of_grown {B mb : Nat} {a b : World} (h : a.grownBy b (some mb)) (hB : B ≤ a.heap.size) : BelowX B mb a b := ⟨h.os, h.tape, h.output, h.size, fun k hk hne => h.block k (by omega) (fun e => hne (by cases e; rfl))⟩
theorem BelowX.grown {mb : Nat} {a b : World} (h : BelowX a.heap.size mb a b) : a.grownBy b (some mb) := ⟨h.1, h.2.1, h.2.2.1, h.2.2.2.1, fun k hk hne => h.2.2.2.2 k hk (fun e => hne (by rw [e]))⟩
theorem BelowX.mono {B B' mb : Nat} {a b : World} (h : BelowX B mb a b) (hB : B' ≤ B) : BelowX B' mb a b := ⟨h.1, h.2.1, h.2.2.1, h.2.2.2.1, fun k hk hne => h.2.2.2.2 k (by omega) hne⟩
def ReplPost (W : World) (mb : Nat) (met : List Int) (t : Ty) (e : Ending) (w' : World) : Prop :=
  ∃ A c, e = .returned (tv (repl met t).1 (.slice A (repl met t).1.args.length c)) ∧ RowKit.Hid (IsA w' (New W.heap.size w') (repl met t).1.args (.slice A (repl met t).1.args.length c)) ∧ RowKit.Hid (MapV Tryz.prog 3 w' mb (numF (repl met t).2)) ∧ W.grownBy w' (some mb)
set_option maxHeartbeats 2000000 in
theorem replace_any (Bm mb : Nat) (n : Nat) : ∀ (t : Ty) (s : Value) (met : List Int) (W : World), t.wt ≤ n → fit t → numsOk t → IsA W (Off (fun g => g = mb) W) t.args s → W.cell? ⟨Bm, 0, none⟩ = some (.map (some mb)) → MapV Tryz.prog 3 W mb (numF met) → met.length + t.wt ≤ 1000000 →
    Calls Tryz.prog 17 #[tv t s, .func (.func 18) #[] #[.pointer (some ⟨Bm, 0, none⟩)]] W (ReplPost W mb met t) := by
  induction n with
  | zero => intro t s met W hn; have := Ty.wt_eq t; omega
  | succ n ih =>
    intro t s met W hn hf hnum hA hc hm hlen
    obtain ⟨i0, hi, hz0, hz1, hz2⟩ := info_parts infoTy
    obtain ⟨A, c, rfl, hcl⟩ := hA.form
    have hmb := hm.lt
    have hBm : Bm < W.heap.size := by
      obtain ⟨o, ho, -⟩ := cell_isCells hc
      exact (Array.getElem?_eq_some_iff.1 ho).1
    have hBne : Bm ≠ mb := fun e => by
      obtain ⟨o, ho, hcc⟩ := cell_isCells hc
      obtain ⟨D, ⟨es, clock, hb, -⟩, -⟩ := hm
      subst e
      rw [hb] at ho
      cases ho
      simp [Obj.isCells] at hcc
    by_cases hk : t.kind = 1
    · have HV := Lib.hid (repl_var met hk)
      have HB := Lib.hid (fun W' (hg : W.grownBy W' none) => show Calls Tryz.prog 18 #[.int .i64 t.num, .pointer (some ⟨Bm, 0, none⟩)] W' fun e w' => e = .returned (.agg #[.int .i64 1, .int .i64 (idx met t.num), .string ⟨#[]⟩, .slice none 0 0]) ∧ RowKit.Hid (MapV Tryz.prog 3 w' mb (numF (metN met t.num))) ∧ W'.grownBy w' (some mb) from become_any Bm mb met t.num W' (hnum t (parts_self t)) (by rw [← hc]; exact World.cell?_of_block (w := W) (hg.block Bm hBm (by simp))) (hm.kept hg (by simp)) (by omega))
      obtain ⟨k, m, z, ls⟩ := t
      simp only [Ty.kind, Ty.num, Ty.args] at *
      subst hk
      have hg2 : ∀ o o', W.grownBy ((W.alloc o).alloc o') none := fun o o' => (World.grownBy_alloc W o none).trans (World.grownBy_alloc _ o' none)
      have HG2 := Lib.hid hg2
      have HFR := Lib.hid (fun o => (heap_alloc_new (W.alloc o) (.cells #[.int .i64 0, .int .i64 0, .string ⟨#[]⟩, .slice none 0 0] 24)))
      simp only [World.size_alloc] at HFR
      clear hg2 ih hn hf hnum hA hm hc hlen
      unfold tv
      simp only [Ty.kind, Ty.num, Ty.name]
      go_enter Tryz.func17, Tryz.ntmps17
      go_wp2_with (go_at_call 18; with_reducible (refine (HB.out _ (HG2.out _ _)).mono ?_); rintro e w1 ⟨rfl, hmv, hg1⟩; have hrow := (hg1.block (W.heap.size + 1) (by simp) (fun e => by cases e; omega)).trans (HFR.out _); obtain ⟨⟨r0, r1, r2, r3⟩, fr0, fr1, fr2, fr3⟩ := row4 hrow; have HRW := Lib.hid hrow; have HG := Lib.hid hg1; clear hg1 hrow)
      refine bodyPost_ret (v := .agg #[.int .i64 1, .int .i64 (idx met m), .string ⟨#[]⟩, .slice none 0 0]) (results_cell_row rfl _ _ (W.heap.size + 1) 24 #[.int .i64 1, .int .i64 (idx met m), .string ⟨#[]⟩, .slice none 0 0] (0, 0) _ rfl (put4_blk HRW.out _ _ _ _) Tryz.underlying24 rfl infoTy4) rfl ?_
      refine ⟨none, 0, by rw [HV.out]; rfl, by rw [HV.out]; exact IsA.nil _ _ _ _, by rw [HV.out]; exact hmv.out.same (put4_other (by omega) _ _ _ _), ?_⟩
      have h1 := ((HG2.out _ _).but (some mb)).trans HG.out
      refine ⟨h1.os, h1.tape, h1.output, by show _ ≤ (put4 _ _ _ _ _ _).heap.size; rw [put4_size]; exact h1.size, fun k hk hne => ?_⟩
      exact (put4_other (W := w1) (by omega) _ _ _ _).trans (h1.block k hk hne)
    · have HV := Lib.hid (repl_con met hk)
      have hE : ∃ M, M = ((W.alloc (.cells #[.int .i64 t.kind, .int .i64 t.num, .string t.name, .slice A t.args.length c] 24)).alloc (.cells #[.int .i64 0, .int .i64 0, .string ⟨#[]⟩, .slice none 0 0] 24)).alloc (Obj.cells (madeCells #[.int .i64 0, .int .i64 0, .string ⟨#[]⟩, .slice none 0 0] (t.args.length * 4)) 24) := ⟨_, rfl⟩
      obtain ⟨M, hM⟩ := hE
      have hMs : M.heap.size = W.heap.size + 3 := by rw [hM]; simp
      have hMb : Below W.heap.size W M := by rw [hM]; exact (((Below.refl _ W).alloc (Nat.le_refl _) _).alloc (by simp) _).alloc (by simp; omega) _
      have hMg : W.grownBy M (some mb) := ⟨hMb.os, hMb.tape, hMb.output, hMb.size, fun k hk _ => hMb.block k hk⟩
      have hM0 : M.heap[W.heap.size]? = some (.cells #[.int .i64 t.kind, .int .i64 t.num, .string t.name, .slice A t.args.length c] 24) := by
        rw [hM, Below.heap_alloc _ _ _ (by simp; omega), Below.heap_alloc _ _ _ (by simp)]
        exact heap_alloc_new W _
      have hM1 : M.heap[W.heap.size + 1]? = some (.cells #[.int .i64 0, .int .i64 0, .string ⟨#[]⟩, .slice none 0 0] 24) := by
        rw [hM, Below.heap_alloc _ _ _ (by simp)]
        have := heap_alloc_new (W.alloc (.cells #[.int .i64 t.kind, .int .i64 t.num, .string t.name, .slice A t.args.length c] 24)) (.cells #[.int .i64 0, .int .i64 0, .string ⟨#[]⟩, .slice none 0 0] 24)
        rwa [World.size_alloc] at this
      have hT0 : Tys (W.heap.size + 2) (fun g => W.heap.size + 2 ≤ g) [] (.slice (some ⟨W.heap.size + 1 + 1, 0, none⟩) 0 t.args.length) M := by
        have := Tys.made (W := (W.alloc (.cells #[.int .i64 t.kind, .int .i64 t.num, .string t.name, .slice A t.args.length c] 24)).alloc (.cells #[.int .i64 0, .int .i64 0, .string ⟨#[]⟩, .slice none 0 0] 24)) (B := W.heap.size + 2) (n := t.args.length) (fun g => W.heap.size + 2 ≤ g) hf.self.2 (by simp) #[.int .i64 0, .int .i64 0, .string ⟨#[]⟩, .slice none 0 0]
        rw [← hM] at this
        simpa using this
      have hsz := hf.self.2
      have hmk := fun W' : World => run_make (P := Tryz.prog) W' 22 24 i0 _ Tryz.underlying22 hi hz0 .i64 .i64 0 t.args.length (by omega) (by have := hf.self.2; omega) (by rw [hz2]; have := hf.self.2; omega) (by omega)
      simp only [Int.toNat_zero, Int.toNat_natCast, hz1] at hmk
      have HMV := Lib.hid (show MapV Tryz.prog 3 M mb (numF met) from hm.below hMb hmb)
      have HA := Lib.hid hA
      have HF := Lib.hid hf
      have HN := Lib.hid hn
      have HU := Lib.hid hnum
      have HI := Lib.hid ih
      have HC := Lib.hid hc
      have HLE := Lib.hid hlen
      have HMs := Lib.hid hMs
      have HM := Lib.hid hMg
      have HM0 := Lib.hid hM0
      have HM1 := Lib.hid hM1
      have HT0 := Lib.hid hT0
      obtain ⟨L, hL⟩ : ∃ L, L = t.args.length := ⟨_, rfl⟩
      have HL := Lib.hid hL
      unfold tv
      rw [← hL] at hM HM0 HT0 hmk hsz hcl HA ⊢
      have hkb : (t.kind == 1) = false := by simpa using hk
      clear hMs hMb hMg hM0 hM1 hT0 hA hf hn hnum ih hc hlen hm hL hk
      go_enter Tryz.func17, Tryz.ntmps17
      go_wp2
      rw [← hM]
      clear hM hmk
      go_loopw [5, 22] (fun v i wr => ∃ k : Nat, k ≤ L ∧ i = .int .i64 k ∧ RowKit.Hid (Tys (W.heap.size + 2) (fun g => W.heap.size + 2 ≤ g) (repls met (t.args.take k)).1 v wr) ∧ RowKit.Hid (MapV Tryz.prog 3 wr mb (numF (repls met (t.args.take k)).2)) ∧ RowKit.Hid (BelowX (W.heap.size + 2) mb M wr)) (fun _ i _ => L - (RowKit.intOf i).toNat)
      case atStart => exact ⟨0, by omega, rfl, by rw [List.take_zero, repls_nil]; exact HT0.out, by rw [List.take_zero, repls_nil]; exact HMV.out, BelowX.refl _ _ _⟩
      case round =>
        obtain ⟨k, hk2, rfl, HT, HMP, HG⟩ := hrel
        have hsz2 := HG.out.2.2.2.1
        have hwl : W.heap.size + 3 ≤ wr.heap.size := by have := HMs.out; omega
        have hblk : ∀ j, W.heap.size ≤ j → j < W.heap.size + 2 → wr.heap[j]? = M.heap[j]? := fun j h1 h2 => HG.out.2.2.2.2 j h2 (by omega)
        have HGW := Lib.hid (((BelowX.of_grown HM.out (Nat.le_refl _)).trans (HG.out.mono (by omega))).grown)
        have HLT := Lib.hid hblk
        by_cases hlt : k < L
        · have hAr : IsA wr (Off (fun g => g = mb) wr) t.args (.slice A L c) := HA.out.grown HGW.out
          obtain ⟨A', c', e, -, hr⟩ := hAr.open
          simp only [Value.slice.injEq] at e
          obtain ⟨rfl, -, rfl⟩ := e
          obtain ⟨g, o, rfl, hg, hr⟩ := hr (by have := HL.out; omega)
          obtain ⟨x, hx⟩ : ∃ x, t.args[k]? = some x := ⟨_, List.getElem?_eq_getElem (by have := HL.out; omega)⟩
          have hxm := List.mem_of_getElem? hx
          obtain ⟨sx, c0, c1, c2, c3, hax⟩ := hr k x hx
          obtain ⟨Ax, cx, rfl, hcx⟩ := hax.form
          have hgl := hg.2
          obtain ⟨b0, b1, b2, b3⟩ := boxT_of ((HLT.out W.heap.size (by omega) (by omega)).trans HM0.out)
          have hmlen : (repls met (t.args.take k)).2.length + x.wt ≤ 1000000 := by
            have h1 := HLE.out
            rw [repls_met]
            have h2 : ∀ (l : List Ty) (m : List Int), (l.foldl vars m).length ≤ m.length + Ty.wts l := by
              intro l
              induction l with
              | nil => intro m; simp [Ty.wts]
              | cons a l ihl =>
                intro m
                rw [List.foldl_cons, Ty.wts]
                have := ihl (vars m a)
                have := vars_len0 a m
                omega
            have h3 := h2 (t.args.take k) met
            have h4 : Ty.wts (t.args.take k) + x.wt ≤ Ty.wts t.args := wts_take hx
            have h5 := Ty.wt_eq t
            omega
          have HC2 := Lib.hid (fun W' (hW : Below wr.heap.size wr W') => HI.out x (.slice Ax x.args.length cx) (repls met (t.args.take k)).2 W' (by have := Ty.wt_lt hxm; have := HN.out; omega) (HF.out.arg hxm) (HU.out.arg hxm)
            ((hax.same fun g hg => hW.block g hg.2).weak fun g hg => ⟨hg.1, by have := hW.size; have := hg.2; omega⟩)
            (by
              rw [← HC.out]
              exact (hW.cell (p := ⟨Bm, 0, none⟩) (by show Bm < _; omega)).trans (World.cell?_of_block (w := W) (HGW.out.block Bm hBm (fun e => hBne (by cases e; rfl)))))
            (HMP.out.below hW (by omega)) hmlen)
          have HX := Lib.hid (show repls met (t.args.take (k + 1)) = ((repls met (t.args.take k)).1 ++ [(repl (repls met (t.args.take k)).2 x).1], (repl (repls met (t.args.take k)).2 x).2) by rw [take_snoc hx, repls_snoc])
          obtain ⟨Av, cv, rfl⟩ := HT.out.len
          have hklen : (repls met (t.args.take k)).1.length = k := by rw [repls_len, List.length_take]; have := HL.out; omega
          rw [hklen] at HT ⊢
          have HKL := Lib.hid hklen
          obtain ⟨acc, hacc⟩ : ∃ acc, acc = (repls met (t.args.take k)).1 := ⟨_, rfl⟩
          obtain ⟨mk, hmk⟩ : ∃ mk, mk = (repls met (t.args.take k)).2 := ⟨_, rfl⟩
          rw [← hacc] at HT HKL HX
          rw [← hmk] at HMP HC2 HX
          obtain ⟨y, hy⟩ : ∃ y, y = repl mk x := ⟨_, rfl⟩
          rw [← hy] at HX
          unfold ReplPost tv at HC2
          rw [← hy] at HC2
          obtain ⟨y1, y2⟩ := y
          simp only at HC2 HX
          clear hx hxm hax hr hAr hg hklen hmlen hblk hacc hmk hy
          have HAL := Lib.hid (fun o => (Below.refl wr.heap.size wr).alloc (Nat.le_refl _) o)
          have hWa : ∀ o, (wr.alloc o).heap.size = wr.heap.size + 1 := fun o => by simp
          have HWA := Lib.hid hWa
          clear hWa
          go_wp2_with (first | (go_at_call 17; with_reducible (refine (HC2.out _ (HAL.out _)).mono ?_); rintro e w1 ⟨Ay, cy, rfl, hn1, hmv1, hg1⟩; have hs1 := hg1.size; rw [HWA.out] at hs1; obtain ⟨ps, -, ho, hnx⟩ := tys_round HKL.out (HT.out.below (HAL.out _)) (fun g h1 h2 => hg1.block g h2 (fun e => by cases e; omega)) hg1.size (by rw [HWA.out]; omega) hn1.out; have HO := Lib.hid ho; have HNX := Lib.hid hnx; have HPL := Lib.hid (ty_plain hn1.out); have HG1 := Lib.hid hg1; have HMV1 := Lib.hid hmv1.out; clear hn1 hg1 ho hnx hmv1) | (at_builtin; refine wpList_append_own_at _ rfl _ _ 22 rfl (W.heap.size + 2) 24 i0 _ 4 56 Tryz.underlying22 hi hz0 hz1 hz2 rfl (by decide) _ _ _ rfl (HO.out.alloc _) ⟨w1.heap.size, 0, none⟩ 1 1 (tyCells y1 (.slice Ay y1.args.length cy)) rfl rfl (ty_news _ _ _ _) HPL.out (by unfold maxLen; omega) (by omega) (by simp; omega) ?_; intro v' w3 hown hgrow hnil hloc; have HST := Lib.hid (HNX.out v' w3 _ hown hgrow hloc); clear hown hgrow hnil hloc))
          go_roundw
          case rel =>
            refine ⟨k + 1, by omega, by go_num, by rw [HX.out]; exact HST.out.1, by rw [HX.out]; exact HMV1.out.below HST.out.2 (by omega), HG.out.trans ((BelowX.of_below ((HAL.out _).mono (by omega))).trans ((BelowX.of_grown HG1.out (by rw [HWA.out]; omega)).trans (BelowX.of_below HST.out.2)))⟩
          case measure => simp [RowKit.intOf]; omega
        · have HT2 := HT.out
          have hkL : k = L := by omega
          subst hkL
          rw [List.take_of_length_le (by have := HL.out; omega)] at HT2 HMP
          obtain ⟨Av, cv, rfl⟩ := HT2.len
          have HTN := Lib.hid HT2
          have hrl : (repls met t.args).1.length = k := by rw [repls_len]; exact HL.out.symm
          rw [hrl] at HTN ⊢
          have HRL := Lib.hid hrl
          obtain ⟨-, fz0, fz1, fz2, fz3⟩ := row4 ((HLT.out W.heap.size (by omega) (by omega)).trans HM0.out)
          have hres := (HLT.out (W.heap.size + 1) (by omega) (by omega)).trans HM1.out
          obtain ⟨⟨r0, r1, r2, r3⟩, fr0, fr1, fr2, fr3⟩ := row4 hres
          obtain ⟨b0, b1, b2, b3⟩ := boxT_of ((HLT.out W.heap.size (by omega) (by omega)).trans HM0.out)
          have HRS := Lib.hid hres
          clear HT HT2 hres hrl hblk
          go_wp2_with fail
          refine bodyPost_ret (v := .agg #[.int .i64 t.kind, .int .i64 t.num, .string t.name, .slice Av k cv]) (results_cell_row rfl _ _ (W.heap.size + 1) 24 #[.int .i64 t.kind, .int .i64 t.num, .string t.name, .slice Av k cv] (0, 0) _ rfl (put4_blk (blk_other (a := ⟨W.heap.size, 3, none⟩) HRS.out (by simp)) _ _ _ _) Tryz.underlying24 rfl infoTy4) rfl ?_
          have hsz3 : (put4 (wr.setCell ⟨W.heap.size, 3, none⟩ (.slice Av k cv)) (W.heap.size + 1) (.int .i64 t.kind) (.int .i64 t.num) (.string t.name) (.slice Av k cv)).heap.size = wr.heap.size := by rw [put4_size]; simp [World.setCell]
          have hoth : ∀ g, g ≠ W.heap.size → g ≠ W.heap.size + 1 → (put4 (wr.setCell ⟨W.heap.size, 3, none⟩ (.slice Av k cv)) (W.heap.size + 1) (.int .i64 t.kind) (.int .i64 t.num) (.string t.name) (.slice Av k cv)).heap[g]? = wr.heap[g]? := fun g h1 h2 =>
            (put4_other (W := wr.setCell ⟨W.heap.size, 3, none⟩ _) h2 _ _ _ _).trans (blk_other (a := ⟨W.heap.size, 3, none⟩) rfl h1)
          refine ⟨Av, cv, by rw [HV.out]; show _ = Ending.returned (.agg #[.int .i64 t.kind, .int .i64 t.num, .string t.name, .slice Av (repls met t.args).1.length cv]); rw [HRL.out], ?_, ?_, ?_⟩
          · rw [HV.out]
            show IsA _ _ (repls met t.args).1 (.slice Av (repls met t.args).1.length cv)
            rw [HRL.out]
            refine (HTN.out.isA.same (fun g hg => ?_)).weak fun g hg => ?_
            · have : W.heap.size + 2 ≤ g := hg.1.elim id id
              exact hoth g (by omega) (by omega)
            · have : W.heap.size + 2 ≤ g := hg.1.elim id id
              have h2 := hg.2
              exact ⟨by omega, by show g < (put4 _ _ _ _ _ _).heap.size; rw [hsz3]; exact h2⟩
          · rw [HV.out]
            exact HMP.out.same (hoth mb (by omega) (by omega))
          · refine ⟨HGW.out.os, HGW.out.tape, HGW.out.output, by show _ ≤ (put4 _ _ _ _ _ _).heap.size; rw [hsz3]; exact HGW.out.size, fun j hj hne => ?_⟩
            exact (hoth j (by omega) (by omega)).trans (HGW.out.block j hj hne)
end Go.Proofs.YtmpmibebkflaiaaGreatDoor
namespace Go.Proofs.YtmpmibebkflaiaaGreatDoor
open Go.RowKit Go.Lib Tp Go.Maps
set_option maxRecDepth 100000
set_option linter.unusedVariables false
set_option linter.unusedSectionVars false

theorem results_cell_tmp {P : Program} {fn : Func} {p t : Tmp} {ty : TypeId} (h : fn.results = #[.cell p ty, .tmp t]) (tmps : Array Value) (w : World) (g : Nat) (ct : TypeId) (cs : Array Value) (fr : Nat × Nat) (d : TypeDesc)
    (hp : tmps.getD p undef = .pointer (some ⟨g, 0, none⟩)) (hg : w.heap[g]? = some (.cells cs ct fr))
    (hu : P.underlying ty = some d) (hd : (match d with | .struct _ | .array _ _ => true | _ => false) = true) (hi : (P.info? ty).map (·.size) = some cs.size) (v : Value) (hv : tmps.getD t undef = v) :
    (results fn tmps).run P w = .ok (.tuple #[.agg cs, v]) w := by
  subst hv
  have hp' : tmps[p]?.getD undef = .pointer (some ⟨g, 0, none⟩) := by simpa using hp
  simp [results, h, hp', asAddr, run_loadVar_row w g ct ty cs fr d hg hu hd hi]
def noT : Value := .agg #[.int .i64 0, .int .i64 0, .string ⟨#[]⟩, .slice none 0 0]
def ClosePost (w : World) (t : Ty) (e : Ending) (w' : World) : Prop :=
  (if rightF nameB t = true then ∃ A c, e = .returned (.tuple #[tv (closeF t) (.slice A (closeF t).args.length c), .int .i64 0]) ∧ RowKit.Hid (IsA w' (New w.heap.size w') (closeF t).args (.slice A (closeF t).args.length c))
   else e = .returned (.tuple #[noT, .int .i64 120])) ∧ Below w.heap.size w w'
set_option maxHeartbeats 2000000 in
theorem close_any (t : Ty) (s : Value) (w : World) (hf : fit t) (hn : numsOk t) (hA : IsA w (Old w) t.args s) : Calls Tryz.prog 7 #[tv t s] w (ClosePost w t) := by
  obtain ⟨A, c, rfl, hc⟩ := hA.form
  obtain ⟨M, hM⟩ : ∃ M, M = (w.alloc (.cells #[.int .i64 t.kind, .int .i64 t.num, .string t.name, .slice A t.args.length c] 24)).alloc (.cells #[.int .i64 0, .int .i64 0, .string ⟨#[]⟩, .slice none 0 0] 24) := ⟨_, rfl⟩
  have hMs : M.heap.size = w.heap.size + 2 := by rw [hM]; simp
  have hMb : Below w.heap.size w M := by rw [hM]; exact ((Below.refl _ w).alloc (Nat.le_refl _) _).alloc (by simp) _
  have hM0 : M.heap[w.heap.size]? = some (.cells #[.int .i64 t.kind, .int .i64 t.num, .string t.name, .slice A t.args.length c] 24) := by
    rw [hM, Below.heap_alloc _ _ _ (by simp)]
    exact heap_alloc_new w _
  have hM1 : M.heap[w.heap.size + 1]? = some (.cells #[.int .i64 0, .int .i64 0, .string ⟨#[]⟩, .slice none 0 0] 24) := by
    have := heap_alloc_new (w.alloc (.cells #[.int .i64 t.kind, .int .i64 t.num, .string t.name, .slice A t.args.length c] 24)) (.cells #[.int .i64 0, .int .i64 0, .string ⟨#[]⟩, .slice none 0 0] 24)
    rw [World.size_alloc, ← hM] at this
    exact this
  have HR := Lib.hid (fun W (hW : W = M) => show Calls Tryz.prog 9 #[.agg #[.int .i64 t.kind, .int .i64 t.num, .string t.name, .slice A t.args.length c]] W fun e w' => e = .returned (.bool (rightF nameB t)) ∧ Below M.heap.size M w' from by
    rw [hW]
    exact right_any t _ M hf (hA.after hMb))
  have HA := Lib.hid hA
  have HF := Lib.hid hf
  have HN := Lib.hid hn
  have HMs := Lib.hid hMs
  have HMb := Lib.hid hMb
  have HM0 := Lib.hid hM0
  have HM1 := Lib.hid hM1
  have HM := Lib.hid hM
  unfold tv
  clear hA hf hn hMs hMb hM0 hM1 hM
  cases hr : rightF nameB t
  · rw [hr] at HR
    have HRF := Lib.hid hr
    clear hr
    go_enter Tryz.func7, Tryz.ntmps7
    go_wp2_with (go_at_call 9; with_reducible (refine (HR.out _ HM.out.symm).mono ?_); rintro e w1 ⟨rfl, hb1⟩; have hrow := (hb1.block (w.heap.size + 1) (by have := HMs.out; omega)).trans HM1.out; obtain ⟨⟨r0, r1, r2, r3⟩, fr0, fr1, fr2, fr3⟩ := row4 hrow; have HRW := Lib.hid hrow; have HB1 := Lib.hid hb1; clear hb1 hrow)
    refine bodyPost_ret (v := .tuple #[noT, .int .i64 120]) (results_cell_tmp rfl _ _ (w.heap.size + 1) 24 #[.int .i64 0, .int .i64 0, .string ⟨#[]⟩, .slice none 0 0] (0, 0) _ rfl (put4_blk HRW.out _ _ _ _) Tryz.underlying24 rfl infoTy4 _ rfl) rfl ?_
    refine ⟨by rw [HRF.out, if_neg (by simp)], put4_below (HMb.out.trans (HB1.out.mono (by have := HMs.out; omega))) (by omega) _ _ _ _⟩
  · rw [hr] at HR
    have HRF := Lib.hid hr
    have HO := Lib.hid (right_ok hr)
    have HRC := Lib.hid (repl_close (right_ok hr).1)
    clear hr
    go_enter Tryz.func7, Tryz.ntmps7
    go_wp2_with fail
    refine (HR.out _ HM.out.symm).mono ?_
    rintro e w1 ⟨rfl, hb1⟩
    obtain ⟨b0, b1, b2, b3⟩ := boxT_of ((hb1.block w.heap.size (by have := HMs.out; omega)).trans HM0.out)
    have HB1 := Lib.hid hb1
    clear hb1
    have hA1 : IsA w1 (Old w1) t.args (.slice A t.args.length c) := HA.out.after (HMb.out.trans (HB1.out.mono (by have := HMs.out; omega)))
    obtain ⟨W2, hW2⟩ : ∃ W2, W2 = (w1.alloc (.map #[] 0)).alloc (.cells #[.map (some w1.heap.size)] 36) := ⟨_, rfl⟩
    have hW2b : Below w1.heap.size w1 W2 := by rw [hW2]; exact ((Below.refl _ _).alloc (Nat.le_refl _) _).alloc (by simp) _
    have hW2c : W2.cell? ⟨w1.heap.size + 1, 0, none⟩ = some (.map (some w1.heap.size)) := by
      have := heap_alloc_new (w1.alloc (.map #[] 0)) (.cells #[.map (some w1.heap.size)] 36)
      rw [World.size_alloc, ← hW2] at this
      exact (cell_at this).1
    have hW2m : MapV Tryz.prog 3 W2 w1.heap.size (numF []) := by
      rw [hW2]
      exact (MapV.made w1 _ _).kept (World.grownBy_alloc _ _ none) (by simp)
    have HC := Lib.hid (replace_any (w1.heap.size + 1) w1.heap.size t.wt t _ [] W2 (Nat.le_refl _) HF.out HN.out (Off.of_map (hA1.after hW2b) hW2m) hW2c hW2m (by have := HO.out.2; simp; omega))
    unfold ReplPost at HC
    rw [HRC.out] at HC
    unfold tv at HC
    simp only at HC
    have hmm := @run_makeMap Tryz.prog
    have HW2 := Lib.hid hW2
    have HW2b := Lib.hid hW2b
    have hs12 : w.heap.size + 2 ≤ w1.heap.size := by have := HB1.out.size; have := HMs.out; omega
    have hs13 : w.heap.size < w1.heap.size := by omega
    have hs14 : M.heap.size ≤ w1.heap.size := HB1.out.size
    clear hA1 hW2 hW2b hW2c hW2m
    go_wp2_with fail
    rw [← HW2.out]
    refine HC.out.mono ?_
    rintro e w3 ⟨A3, c3, rfl, hn3, -, hg3⟩
    have hrow := ((hg3.block (w.heap.size + 1) (by have := HW2b.out.size; have := HMs.out; omega) (fun e => by simp only [Option.some.injEq] at e; have := HMs.out; omega)).trans (HW2b.out.block (w.heap.size + 1) (by have := HMs.out; omega))).trans ((HB1.out.block (w.heap.size + 1) (by have := HMs.out; omega)).trans HM1.out)
    obtain ⟨⟨r0, r1, r2, r3⟩, fr0, fr1, fr2, fr3⟩ := row4 hrow
    have hb3 : Below w.heap.size w w3 := (HMb.out.trans (HB1.out.mono (by have := HMs.out; omega))).trans ((HW2b.out.mono (by have := HMs.out; omega)).trans ⟨hg3.os, hg3.tape, hg3.output, hg3.size, fun k hk => hg3.block k (by have := HW2b.out.size; have := HMs.out; omega) (fun e => by simp only [Option.some.injEq] at e; have := HMs.out; omega)⟩)
    have HRW := Lib.hid hrow
    have HB3 := Lib.hid hb3
    have hW2s : w1.heap.size ≤ W2.heap.size := HW2b.out.size
    clear hrow hb3 hg3
    go_wp2_with fail
    refine bodyPost_ret (v := .tuple #[.agg #[.int .i64 (closeF t).kind, .int .i64 (closeF t).num, .string (closeF t).name, .slice A3 (closeF t).args.length c3], .int .i64 0]) (results_cell_tmp rfl _ _ (w.heap.size + 1) 24 #[.int .i64 (closeF t).kind, .int .i64 (closeF t).num, .string (closeF t).name, .slice A3 (closeF t).args.length c3] (0, 0) _ rfl (put4_blk HRW.out _ _ _ _) Tryz.underlying24 rfl infoTy4 _ rfl) rfl ?_
    refine ⟨?_, put4_below HB3.out (by omega) _ _ _ _⟩
    rw [HRF.out, if_pos rfl]
    refine ⟨A3, c3, rfl, (hn3.out.same fun g hg => put4_other (by have := hg.1; have := HMs.out; omega) _ _ _ _).weak fun g hg => ⟨by have := hg.1; have := HMs.out; omega, by show g < (put4 _ _ _ _ _ _).heap.size; rw [put4_size]; exact hg.2⟩⟩
end Go.Proofs.YtmpmibebkflaiaaGreatDoor
