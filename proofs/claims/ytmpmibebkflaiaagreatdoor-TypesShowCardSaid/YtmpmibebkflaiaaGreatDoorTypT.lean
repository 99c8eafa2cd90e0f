/- The contract of CopyType. The contracts of types' Same and of slices.EqualFunc over it. -/
import Derived.Test.YtmpmibebkflaiaaGreatDoorTypE
namespace Go.Proofs.YtmpmibebkflaiaaGreatDoor
open Go.RowKit Go.Lib Tp
set_option maxRecDepth 100000
set_option linter.unusedVariables false
set_option linter.unusedSectionVars false

theorem take_snoc {α : Type} {l : List α} {k : Nat} {x : α} (h : l[k]? = some x) : l.take (k + 1) = l.take k ++ [x] := by
  rw [List.take_add_one, h]; rfl
theorem row4 {W : World} {B : Nat} {a b c d : Value} {e : TypeId} (h : W.heap[B]? = some (.cells #[a, b, c, d] e)) :
    (W.cell? ⟨B, 0, none⟩ = some a ∧ W.cell? ⟨B, 1, none⟩ = some b ∧ W.cell? ⟨B, 2, none⟩ = some c ∧ W.cell? ⟨B, 3, none⟩ = some d) ∧ (W.frozen? ⟨B, 0, none⟩ = false ∧ W.frozen? ⟨B, 1, none⟩ = false ∧ W.frozen? ⟨B, 2, none⟩ = false ∧ W.frozen? ⟨B, 3, none⟩ = false) := by
  refine ⟨⟨?_, ?_, ?_, ?_⟩, ?_, ?_, ?_, ?_⟩ <;> simp [World.cell?, World.frozen?, h]
theorem blk_set {W : World} {g k : Nat} {cs : Array Value} {t : TypeId} {fr : Nat × Nat} (h : W.heap[g]? = some (.cells cs t fr)) (v : Value) : (W.setCell ⟨g, k, none⟩ v).heap[g]? = some (.cells (cs.setIfInBounds k v) t fr) := by
  simp only [World.setCell, Array.getElem?_modify, if_true, h]
  rfl
theorem blk_other {W : World} {a : Addr} {u : Value} {g : Nat} {o : Option Obj} (h : W.heap[g]? = o) (hne : g ≠ a.block) : (W.setCell a u).heap[g]? = o := by
  simp only [World.setCell, Array.getElem?_modify]
  rw [if_neg (fun e => hne e.symm)]
  exact h
/-- four cells stored behind one another. -/
def put4 (W : World) (g : Nat) (a b c d : Value) : World := (((W.setCell ⟨g, 0, none⟩ a).setCell ⟨g, 1, none⟩ b).setCell ⟨g, 2, none⟩ c).setCell ⟨g, 3, none⟩ d
theorem put4_blk {W : World} {g : Nat} {T : TypeId} {v0 v1 v2 v3 : Value} (h : W.heap[g]? = some (.cells #[v0, v1, v2, v3] T (0, 0))) (a b c d : Value) : (put4 W g a b c d).heap[g]? = some (.cells #[a, b, c, d] T (0, 0)) :=
  blk_set (blk_set (blk_set (blk_set h a) b) c) d
theorem put4_below {B : Nat} {w W : World} (h : Below B w W) {g : Nat} (hg : B ≤ g) (a b c d : Value) : Below B w (put4 W g a b c d) :=
  (((h.setCell (p := ⟨g, 0, none⟩) hg _).setCell (p := ⟨g, 1, none⟩) hg _).setCell (p := ⟨g, 2, none⟩) hg _).setCell (p := ⟨g, 3, none⟩) hg _
theorem put4_other {W : World} {g k : Nat} (hne : k ≠ g) (a b c d : Value) : (put4 W g a b c d).heap[k]? = W.heap[k]? := by
  unfold put4
  rw [Below.heap_setCell _ _ _ _ hne, Below.heap_setCell _ _ _ _ hne, Below.heap_setCell _ _ _ _ hne, Below.heap_setCell _ _ _ _ hne]
theorem put4_size (W : World) (g : Nat) (a b c d : Value) : (put4 W g a b c d).heap.size = W.heap.size := by simp [put4, World.setCell]
theorem infoTy4 : (Tryz.prog.info? 24).map (·.size) = some 4 := by kernel_rfl
/-- what a call answers that makes a type anew. -/
def NewT (w : World) (t : Ty) (e : Ending) (w' : World) : Prop := ∃ A c, e = .returned (tv t (.slice A t.args.length c)) ∧ RowKit.Hid (IsA w' (New w.heap.size w') t.args (.slice A t.args.length c)) ∧ Below w.heap.size w w'
theorem Tys.keep {B : Nat} {acc : List Ty} {v : Value} {w w' : World} (h : Tys B (fun g => B ≤ g) acc v w) (hb : ∀ g, B ≤ g → g < w.heap.size → w'.heap[g]? = w.heap[g]?) (hs : w.heap.size ≤ w'.heap.size) : Tys B (fun g => B ≤ g) acc v w' := by
  obtain ⟨ps, hp, ho, he⟩ := h
  refine ⟨ps, hp, own_same ho fun g hg => hb g (ho.lt g hg).1 (ho.lt g hg).2, fun p hp => ?_⟩
  exact ((he p hp).same fun g hg => hb g hg.1 hg.2.1).weak fun g hg => ⟨hg.1, by have := hg.2.1; omega, hg.2.2⟩
/-- the row that a loop builds, behind one round: the element came in w2. -/
theorem tys_round {B : Nat} {acc : List Ty} {v s : Value} {x : Ty} {W w2 : World} {n : Nat} (hn : acc.length = n) (hv : Tys B (fun g => B ≤ g) acc v W) (hb : ∀ g, B ≤ g → g < W.heap.size → w2.heap[g]? = W.heap[g]?) (hsz : W.heap.size ≤ w2.heap.size) (hB : B ≤ W.heap.size)
    (hs : IsA w2 (New W.heap.size w2) x.args s) :
    ∃ ps : List (Ty × Value), ps.map (·.1) = acc ∧ w2.ownsRow B 24 4 v n (psCells ps) ∧
      ∀ v' w3 o, w3.ownsRow B 24 4 v' (n + 1) (psCells ps ++ tyCells x s) → (w2.alloc o).grownBy w3 v.ownBlock → (v'.ownBlock = v.ownBlock ∨ v'.ownBlock = some (w2.alloc o).heap.size) → Tys B (fun g => B ≤ g) (acc ++ [x]) v' w3 ∧ Below B w2 w3 := by
  subst hn
  obtain ⟨ps, hp, ho, he⟩ := hv.keep hb hsz
  obtain ⟨ps0, -, ho0, -⟩ := hv
  refine ⟨ps, hp, ho, fun v' w3 o hown hg hl => ⟨Tys.next (W := W) hp ho he (hs.weak fun g hg => ⟨by have := hg.1; omega, hg.2, fun e => ?_⟩) hown hg hl, ?_⟩⟩
  · have := (ho0.lt g e.symm).2
    have := hg.1
    omega
  · exact ((Below.refl _ _).alloc (by omega) o).grown hg (by simp; omega) (fun j e => (ho.lt j e).1)
set_option maxHeartbeats 1000000 in
theorem copyType_any (n : Nat) : ∀ (t : Ty) (s : Value) (w : World), t.wt ≤ n → fit t → IsA w (Old w) t.args s →
    Calls Tryz.prog 6 #[tv t s] w (NewT w t) := by
  induction n with
  | zero => intro t s w hn; have := Ty.wt_eq t; omega
  | succ n ih =>
    intro t s w hn hf hA
    obtain ⟨i0, hi, hz0, hz1, hz2⟩ := info_parts infoTy
    obtain ⟨A, c, rfl, hc, hr⟩ := argsT_of hA
    have HR := Lib.hid hr
    have HF := Lib.hid hf
    have HN := Lib.hid hn
    have HI := Lib.hid ih
    have hsz := hf.self.2
    obtain ⟨L, hL⟩ : ∃ L, L = t.args.length := ⟨_, rfl⟩
    have HL := Lib.hid hL
    clear hr hf hA hn ih
    unfold tv
    rw [← hL] at hc hsz ⊢
    clear hL
    go_enter Tryz.func6, Tryz.ntmps6
    go_wp2
    obtain ⟨M, hM⟩ : ∃ M, M = ((w.alloc (.cells #[.int .i64 t.kind, .int .i64 t.num, .string t.name, .slice A L c] 24)).alloc (.cells #[.int .i64 0, .int .i64 0, .string ⟨#[]⟩, .slice none 0 0] 24)).alloc (.cells #[] 24) := ⟨_, rfl⟩
    have hMs : M.heap.size = w.heap.size + 3 := by rw [hM]; simp
    have hMb : Below w.heap.size w M := by rw [hM]; exact (((Below.refl _ w).alloc (Nat.le_refl _) _).alloc (by simp) _).alloc (by simp; omega) _
    have hM0 : M.heap[w.heap.size]? = some (.cells #[.int .i64 t.kind, .int .i64 t.num, .string t.name, .slice A L c] 24) := by
      rw [hM, Below.heap_alloc _ _ _ (by simp; omega), Below.heap_alloc _ _ _ (by simp)]
      exact heap_alloc_new w _
    have hM1 : M.heap[w.heap.size + 1]? = some (.cells #[.int .i64 0, .int .i64 0, .string ⟨#[]⟩, .slice none 0 0] 24) := by
      rw [hM, Below.heap_alloc _ _ _ (by simp)]
      have := heap_alloc_new (w.alloc (.cells #[.int .i64 t.kind, .int .i64 t.num, .string t.name, .slice A L c] 24)) (.cells #[.int .i64 0, .int .i64 0, .string ⟨#[]⟩, .slice none 0 0] 24)
      rwa [World.size_alloc] at this
    have hT0 : Tys (w.heap.size + 2) (fun g => w.heap.size + 2 ≤ g) [] (.slice (some ⟨w.heap.size + 1 + 1, 0, none⟩) 0 0) M := by
      have := Tys.empty (w.heap.size + 2) (fun g => w.heap.size + 2 ≤ g) ((w.alloc (.cells #[.int .i64 t.kind, .int .i64 t.num, .string t.name, .slice A L c] 24)).alloc (.cells #[.int .i64 0, .int .i64 0, .string ⟨#[]⟩, .slice none 0 0] 24)) (by simp)
      rw [← hM] at this
      simpa using this
    have HMs := Lib.hid hMs
    have HM := Lib.hid hMb
    have HM0 := Lib.hid hM0
    have HM1 := Lib.hid hM1
    have HT0 := Lib.hid hT0
    rw [← hM]
    clear hM hMs hMb hM0 hM1 hT0
    go_loopw [3, 4] (fun v i wr => ∃ k : Nat, k ≤ L ∧ i = .int .i64 k ∧ RowKit.Hid (Tys (w.heap.size + 2) (fun g => w.heap.size + 2 ≤ g) (t.args.take k) v wr) ∧ RowKit.Hid (Below (w.heap.size + 2) M wr)) (fun _ i _ => L - (RowKit.intOf i).toNat)
    case atStart => exact ⟨0, by omega, rfl, HT0.out, Below.refl _ _⟩
    case round =>
      obtain ⟨k, hk, rfl, HT, HB⟩ := hrel
      have hsz2 := HB.out.size
      obtain ⟨b0, b1, b2, b3⟩ := boxT_of ((HB.out.block w.heap.size (by omega)).trans HM0.out)
      have HBw := Lib.hid (HM.out.trans (HB.out.mono (by omega)))
      by_cases hlt : k < L
      · obtain ⟨g, o, rfl, hg, hr⟩ := HR.out (by have := HL.out; omega)
        obtain ⟨x, hx⟩ : ∃ x, t.args[k]? = some x := ⟨_, List.getElem?_eq_getElem (by have := HL.out; omega)⟩
        have hxm := List.mem_of_getElem? hx
        obtain ⟨sx, c0, c1, c2, c3, hax⟩ := ElsT.at hr hg HBw.out hx
        obtain ⟨Ax, cx, rfl, hcx⟩ := hax.form
        have HC := Lib.hid (HI.out x _ wr (by have := Ty.wt_lt hxm; have := HN.out; omega) (HF.out.arg hxm) hax)
        have HX := Lib.hid (take_snoc hx)
        have hwl : w.heap.size + 3 ≤ wr.heap.size := by have := HMs.out; omega
        unfold NewT tv at HC
        clear hx hxm hax hr
        obtain ⟨Av, cv, rfl⟩ := HT.out.len
        have hklen : (t.args.take k).length = k := by rw [List.length_take]; have := HL.out; omega
        rw [hklen] at HT ⊢
        have HKL := Lib.hid hklen
        clear hklen
        go_wp2_with (first | (go_at_call 6; with_reducible (refine HC.out.mono ?_); rintro e w1 ⟨Ay, cy, rfl, hn1, hb1⟩; obtain ⟨ps, -, ho, hnx⟩ := tys_round HKL.out HT.out (fun g _ hg => hb1.block g hg) hb1.size (by omega) hn1.out; have HO := Lib.hid ho; have HNX := Lib.hid hnx; have HPL := Lib.hid (ty_plain hn1.out); have HB1 := Lib.hid hb1; have hs1 := hb1.size; clear hn1 hb1 ho hnx) | (at_builtin; refine wpList_append_own_at _ rfl _ _ 22 rfl (w.heap.size + 2) 24 i0 _ 4 56 Tryz.underlying22 hi hz0 hz1 hz2 rfl (by decide) _ _ _ rfl (HO.out.alloc _) ⟨w1.heap.size, 0, none⟩ 1 1 (tyCells x (.slice Ay x.args.length cy)) rfl rfl (ty_news _ _ _ _) HPL.out (by unfold maxLen; omega) (by omega) (by simp; omega) ?_; intro v' w3 hown hgrow hnil hloc; have HST := Lib.hid (HNX.out v' w3 _ hown hgrow hloc); clear hown hgrow hnil hloc))
        go_roundw
        case rel => exact ⟨k + 1, by omega, by go_num, by rw [HX.out]; exact HST.out.1, HB.out.trans ((HB1.out.mono (by omega)).trans HST.out.2)⟩
        case measure => simp [RowKit.intOf]; omega
      · have HT2 := HT.out
        have hkL : k = L := by omega
        subst hkL
        rw [List.take_of_length_le (by have := HL.out; omega)] at HT2
        obtain ⟨Av, cv, rfl⟩ := HT2.len
        have HTN := Lib.hid HT2
        rw [← HL.out] at HTN ⊢
        obtain ⟨-, fz0, fz1, fz2, fz3⟩ := row4 ((HB.out.block w.heap.size (by omega)).trans HM0.out)
        have hres := (HB.out.block (w.heap.size + 1) (by omega)).trans HM1.out
        obtain ⟨⟨r0, r1, r2, r3⟩, fr0, fr1, fr2, fr3⟩ := row4 hres
        have HRS := Lib.hid hres
        clear HT HT2 hres
        go_wp2_with fail
        refine bodyPost_ret (v := .agg #[.int .i64 t.kind, .int .i64 t.num, .string t.name, .slice Av k cv]) (results_cell_row rfl _ _ (w.heap.size + 1) 24 #[.int .i64 t.kind, .int .i64 t.num, .string t.name, .slice Av k cv] (0, 0) _ rfl (put4_blk (blk_other (a := ⟨w.heap.size, 3, none⟩) HRS.out (by simp)) _ _ _ _) Tryz.underlying24 rfl infoTy4) rfl ?_
        refine ⟨Av, cv, by unfold tv; rw [← HL.out], ?_, put4_below (HBw.out.setCell (p := ⟨w.heap.size, 3, none⟩) (Nat.le_refl _) _) (by omega) _ _ _ _⟩
        rw [← HL.out]
        refine (HTN.out.isA.same (fun g hg => ?_)).weak fun g hg => ?_
        · have : w.heap.size + 2 ≤ g := hg.1.elim id id
          exact (put4_other (W := wr.setCell ⟨w.heap.size, 3, none⟩ _) (by omega) _ _ _ _).trans (blk_other (a := ⟨w.heap.size, 3, none⟩) rfl (by show g ≠ w.heap.size; omega))
        · have : w.heap.size + 2 ≤ g := hg.1.elim id id
          have h2 := hg.2
          refine ⟨by omega, ?_⟩
          show g < (put4 (wr.setCell ⟨w.heap.size, 3, none⟩ _) _ _ _ _ _).heap.size
          rw [put4_size]
          simp [World.setCell]
          exact h2
end Go.Proofs.YtmpmibebkflaiaaGreatDoor
namespace Go.Proofs.YtmpmibebkflaiaaGreatDoor
open Go.RowKit Go.Lib Tp
set_option maxRecDepth 100000
set_option linter.unusedVariables false
set_option linter.unusedSectionVars false

def SameSpec (n : Nat) : Prop := ∀ (t u : Ty) (s1 s2 : Value) (w : World), t.wt ≤ n → fit t → IsA w (Old w) t.args s1 → IsA w (Old w) u.args s2 →
    Calls Tryz.prog 45 #[tv t s1, tv u s2] w fun e w' => e = .returned (.bool (sameF t u)) ∧ Below w.heap.size w w'
set_option maxHeartbeats 1000000 in
theorem equalFunc_any (n : Nat) (hS : SameSpec n) (ls ms : List Ty) (s1 s2 : Value) (w : World) (hw : ∀ x ∈ ls, x.wt ≤ n ∧ fit x) (hl1 : ls.length ≤ 2513169434843) (hA1 : IsA w (Old w) ls s1) (hA2 : IsA w (Old w) ms s2) :
    Calls Tryz.prog 63 #[s1, s2, .func (.func 45) #[] #[]] w fun e w' => e = .returned (.bool (sameFs ls ms)) ∧ Below w.heap.size w w' := by
  obtain ⟨A1, c1, rfl, hc1, hr1⟩ := argsT_of hA1
  obtain ⟨A2, c2, rfl, hc2, hr2⟩ := argsT_of hA2
  have HR1 := Lib.hid hr1
  have HR2 := Lib.hid hr2
  have HS := Lib.hid hS
  have HW := Lib.hid hw
  clear hr1 hr2 hA1 hA2 hS hw
  by_cases hl : ls.length = ms.length
  case neg =>
    have hlb : ((ls.length : Int) != (ms.length : Int)) = true := by simp; omega
    have HE := Lib.hid (sameFs_len hl)
    clear hl
    go_enter Tryz.func63, Tryz.ntmps63
    go_wp2
    go_ret
    rw [HE.out]
    exact ⟨rfl, Below.refl _ _⟩
  obtain ⟨L, hL⟩ : ∃ L, L = ls.length := ⟨_, rfl⟩
  rw [← hl] at HR2 hc2 ⊢
  rw [← hL] at HR1 HR2 hc1 hc2 hl1 ⊢
  have HL := Lib.hid hL
  have HLL := Lib.hid hl
  clear hL hl
  go_enter Tryz.func63, Tryz.ntmps63
  go_wp2
  go_loopw [17] (fun i wr => ∃ k : Nat, k ≤ L ∧ i = .int .i64 k ∧ RowKit.Hid (sameFs (ls.drop k) (ms.drop k) = sameFs ls ms) ∧ RowKit.Hid (Below w.heap.size w wr)) (fun i _ => L - (RowKit.intOf i).toNat)
  case atStart => exact ⟨0, by omega, rfl, rfl, Below.refl _ _⟩
  case round =>
    obtain ⟨j, hj, rfl, HE, HB⟩ := hrel
    by_cases hlt : j < L
    · obtain ⟨g1, o1, rfl, hg1, hr1⟩ := HR1.out (by omega)
      obtain ⟨g2, o2, rfl, hg2, hr2⟩ := HR2.out (by have := HLL.out; omega)
      obtain ⟨x, hx⟩ : ∃ x, ls[j]? = some x := ⟨_, List.getElem?_eq_getElem (by have := HL.out; omega)⟩
      obtain ⟨y, hy⟩ : ∃ y, ms[j]? = some y := ⟨_, List.getElem?_eq_getElem (by have := HL.out; have := HLL.out; omega)⟩
      have hxm := List.mem_of_getElem? hx
      obtain ⟨sx, c0, c1, c2, c3, hax⟩ := ElsT.at hr1 hg1 HB.out hx
      obtain ⟨sy, d0, d1, d2, d3, hay⟩ := ElsT.at hr2 hg2 HB.out hy
      obtain ⟨Ax, cx, rfl, hcx⟩ := hax.form
      obtain ⟨Ay, cy, rfl, hcy⟩ := hay.form
      have hg1' : g1 < wr.heap.size := by have := HB.out.size; unfold Old at hg1; omega
      have hg2' : g2 < wr.heap.size := by have := HB.out.size; unfold Old at hg2; omega
      have HC := Lib.hid (fun W (hW : Below wr.heap.size wr W) => HS.out x y _ _ W (HW.out x hxm).1 (HW.out x hxm).2 (hax.after hW) (hay.after hW))
      have HS2 := Lib.hid (show (sameF x y && sameFs (ls.drop (j + 1)) (ms.drop (j + 1))) = sameFs ls ms by
        rw [← HE.out, drop_cons hx, drop_cons hy, sameFs_cons])
      unfold tv at HC
      obtain ⟨b, hb⟩ : ∃ b, b = sameF x y := ⟨_, rfl⟩
      rw [← hb] at HC HS2
      clear hb hx hy hxm hax hay hr1 hr2
      have h2a : ∀ o o', Below wr.heap.size wr ((wr.alloc o).alloc o') := fun o o' => ((Below.refl _ _).alloc (Nat.le_refl _) _).alloc (by simp) _
      have H2A := Lib.hid h2a
      clear h2a
      cases b
      · go_wp2_with (go_at_call 45; with_reducible (refine (HC.out _ (H2A.out _ _)).mono ?_); rintro e w1 ⟨rfl, hb1⟩; have HB1 := Lib.hid ((H2A.out _ _).trans (hb1.mono (H2A.out _ _).size)); clear hb1)
        go_ret
        rw [← HS2.out]
        exact ⟨rfl, HB.out.trans (HB1.out.mono HB.out.size)⟩
      · go_wp2_with (go_at_call 45; with_reducible (refine (HC.out _ (H2A.out _ _)).mono ?_); rintro e w1 ⟨rfl, hb1⟩; have HB1 := Lib.hid ((H2A.out _ _).trans (hb1.mono (H2A.out _ _).size)); clear hb1)
        go_roundw
        case rel => exact ⟨j + 1, by omega, by go_num, HS2.out, HB.out.trans (HB1.out.mono HB.out.size)⟩
        case measure => simp [RowKit.intOf]; omega
    · go_wp2
      go_ret
      rw [← HE.out]
      refine ⟨ret_bool ?_, HB.out⟩
      rw [List.drop_eq_nil_of_le (by have := HL.out; omega), List.drop_eq_nil_of_le (by have := HL.out; have := HLL.out; omega)]
      exact sameFs_nil.symm
set_option maxHeartbeats 1000000 in
theorem same_any (n : Nat) : SameSpec n := by
  induction n with
  | zero => intro t u s1 s2 w hn; have := Ty.wt_eq t; omega
  | succ n ih =>
    intro t u s1 s2 w hn hf hA1 hA2
    obtain ⟨A1, c1, rfl, hc1⟩ := hA1.form
    obtain ⟨A2, c2, rfl, hc2⟩ := hA2.form
    obtain ⟨M, hMe, hbx, hby, hMs, hMb⟩ := two_boxes w t u (.slice A1 t.args.length c1) (.slice A2 u.args.length c2) 24
    have HC := Lib.hid (equalFunc_any n ih t.args u.args _ _ M (fun x hx => ⟨by have := Ty.wt_lt hx; omega, hf.arg hx⟩) hf.self.2 (hA1.after hMb) (hA2.after hMb))
    have HM := Lib.hid hMb
    have HE := Lib.hid (sameF_eq t u)
    have HME := Lib.hid hMe
    clear hf hA1 hA2 ih hbx hby hMe hMs hMb hn
    obtain ⟨k, m, z, as1⟩ := t
    obtain ⟨k', m', z', as2⟩ := u
    simp only [Ty.kind, Ty.num, Ty.name, Ty.args] at *
    simp only [tv, Ty.kind, Ty.num, Ty.name]
    by_cases hk : k = k'
    case neg =>
      have HE2 := Lib.hid (HE.out.trans (by simp [hk] : _ = false))
      go_enter Tryz.func45, Tryz.ntmps45
      go_wp2_with fail
      go_ret
      rw [HE2.out]
      exact ⟨rfl, HME.out ▸ HM.out⟩
    subst hk
    by_cases hm : m = m'
    case neg =>
      have HE2 := Lib.hid (HE.out.trans (by simp [hm] : _ = false))
      go_enter Tryz.func45, Tryz.ntmps45
      go_wp2_with fail
      go_ret
      rw [HE2.out]
      exact ⟨rfl, HME.out ▸ HM.out⟩
    subst hm
    by_cases hz : z = z'
    case neg =>
      have HE2 := Lib.hid (HE.out.trans (by simp [hz] : _ = false))
      have hzb : (z.toList == z'.toList) = false := by rw [name_eq]; simp [hz]
      clear hz
      go_enter Tryz.func45, Tryz.ntmps45
      go_wp2_with fail
      go_ret
      rw [HE2.out]
      exact ⟨rfl, HME.out ▸ HM.out⟩
    subst hz
    have HE3 := Lib.hid (HE.out.trans (by simp : _ = sameFs as1 as2))
    clear HE
    rw [HME.out] at HC HM
    go_enter Tryz.func45, Tryz.ntmps45
    go_wp2_with (go_at_call 63; with_reducible (refine HC.out.mono ?_); rintro e w1 ⟨rfl, hb1⟩; have HB1 := Lib.hid (HM.out.trans (hb1.mono HM.out.size)); clear hb1)
    go_ret
    rw [HE3.out]
    exact ⟨rfl, HB1.out⟩
end Go.Proofs.YtmpmibebkflaiaaGreatDoor
