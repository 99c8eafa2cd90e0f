/- The contract of types' rightPart. The contract of types' walk through a type's parts. The contract of types' Right. -/
import Derived.Test.YtmpmibebkflaiaaGreatDoorTypE
import Derived.Test.YtmpmibebkflaiaaGreatDoorLexK
import Derived.RangeFuncNested
import Derived.RangeFuncBound
import Derived.RangeFuncCalls
import Derived.RangeFuncLeaves
import Derived.Shelf.Abstract
import Derived.Shelf.RegionOpen
import Derived.WalkKit
import Derived.OwnWalkIn
import Derived.TacticsInMore
import Derived.LoopNIn
import Derived.LoopIn
namespace Go.Proofs.YtmpmibebkflaiaaGreatDoor
open Go.RowKit Go.Lib Tp
set_option maxRecDepth 100000
set_option linter.unusedVariables false
set_option linter.unusedSectionVars false

/-- is a text a name? -/
def nameB (s : ByteArray) : Bool := kindF s.data.toList == 1
theorem empty_name (s : ByteArray) : s.toList = [] ↔ s.size = 0 := by
  rw [Lib.toList_data]
  constructor
  · intro h
    have := congrArg List.length h
    simpa using this
  · intro h
    exact List.eq_nil_of_length_eq_zero (by simpa using h)
set_option maxHeartbeats 1000000 in
theorem rightPart_any (t : Ty) (A : Option Addr) (c : Nat) (w : World) (hs : t.name.size ≤ 140737488351232) (hl : t.args.length ≤ 2513169434843) (hc : t.args.length ≤ c) :
    Calls Tryz.prog 22 #[tv t (.slice A t.args.length c)] w fun e w' => e = .returned (.bool (rightPart nameB t)) ∧ Below w.heap.size w w' := by
  obtain ⟨k, m, z, ls⟩ := t
  simp only [Ty.name, Ty.args] at *
  simp only [tv, Ty.kind, Ty.num, Ty.name]
  have HB := Lib.hid (fun o => (Below.refl w.heap.size w).alloc (Nat.le_refl _) o)
  have HZ := Lib.hid (empty_name z)
  have HK := Lib.hid (fun W : World => kind_any z W (by omega))
  by_cases h1 : k = 1
  · subst h1
    have HE : RowKit.Hid (rightPart nameB (.mk 1 m z ls) = (decide (0 ≤ m ∧ m < 1073741824) && (z.size == 0) && (ls.length == 0))) := by unfold rightPart; rfl
    go_enter Tryz.func22, Tryz.ntmps22
    go_wp2
    all_goals go_ret
    all_goals refine ⟨ret_bool ?_, HB.out _⟩
    all_goals rw [HE.out, Bool.eq_iff_iff]
    all_goals have hz := HZ.out
    all_goals simp_all
    all_goals omega
  · by_cases h2 : k = 2
    · subst h2
      have HE : RowKit.Hid (rightPart nameB (.mk 2 m z ls) = (decide (m = 0) && nameB z)) := by unfold rightPart; rfl
      go_enter Tryz.func22, Tryz.ntmps22
      go_wp2_with (go_at_call 32; with_reducible (refine (HK.out _).mono ?_); rintro e w1 ⟨rfl, rfl⟩)
      all_goals go_ret
      all_goals refine ⟨ret_bool ?_, HB.out _⟩
      all_goals rw [HE.out, Bool.eq_iff_iff]
      all_goals simp_all [nameB]
      all_goals omega
    · by_cases h3 : k = 3
      · subst h3
        have HE : RowKit.Hid (rightPart nameB (.mk 3 m z ls) = (decide (m = 0) && (z.size == 0) && decide (2 ≤ ls.length))) := by unfold rightPart; rfl
        go_enter Tryz.func22, Tryz.ntmps22
        go_wp2
        all_goals go_ret
        all_goals refine ⟨ret_bool ?_, HB.out _⟩
        all_goals rw [HE.out, Bool.eq_iff_iff]
        all_goals have hz := HZ.out
        all_goals simp_all
        all_goals omega
      · by_cases h4 : k = 4
        · subst h4
          have HE : RowKit.Hid (rightPart nameB (.mk 4 m z ls) = (decide (m = 0) && (z.size == 0) && (ls.length == 2))) := by unfold rightPart; rfl
          go_enter Tryz.func22, Tryz.ntmps22
          go_wp2
          all_goals go_ret
          all_goals refine ⟨ret_bool ?_, HB.out _⟩
          all_goals rw [HE.out, Bool.eq_iff_iff]
          all_goals have hz := HZ.out
          all_goals simp_all
          all_goals omega
        · have HE : RowKit.Hid (rightPart nameB (.mk k m z ls) = false) := by unfold rightPart; simp [Ty.kind, h1, h2, h3, h4, RowKit.Hid]
          go_enter Tryz.func22, Tryz.ntmps22
          go_wp2
          go_ret
          rw [HE.out]
          exact ⟨rfl, HB.out _⟩
end Go.Proofs.YtmpmibebkflaiaaGreatDoor
namespace Go.Proofs.YtmpmibebkflaiaaGreatDoor
open Go.RowKit Go.Lib Tp
attribute [local go_sem] Oper.semAt_some
set_option maxRecDepth 100000
set_option linter.unusedVariables false
set_option linter.unusedSectionVars false

/-- what a round keeps that goes on: all rows of cells but those of Z. -/
def KpZ (Z : Nat → Prop) (A B : World) : Prop := Below 0 A B ∧ (∀ k o, A.heap[k]? = some o → o.isCells = true → ¬ Z k → B.heap[k]? = some o) ∧ KeepsWalks A B
theorem KpZ.refl (Z : Nat → Prop) (A : World) : KpZ Z A A := ⟨Below.refl _ _, fun _ _ h _ _ => h, KeepsWalks.refl _⟩
theorem KpZ.trans {Z : Nat → Prop} {A B C : World} (h : KpZ Z A B) (k : KpZ Z B C) : KpZ Z A C := ⟨h.1.trans k.1, fun i o hi hc hz => k.2.1 i o (h.2.1 i o hi hc hz) hc hz, h.2.2.trans k.2.2⟩
theorem KpZ.of_below {Z : Nat → Prop} {A B : World} (h : Below A.heap.size A B) : KpZ Z A B :=
  ⟨h.mono (Nat.zero_le _), fun k o hk _ _ => (h.block k (Array.getElem?_eq_some_iff.1 hk).1).trans hk, h.size, fun k o hk _ => (h.block k (Array.getElem?_eq_some_iff.1 hk).1).trans hk⟩
theorem KpZ.put {Z : Nat → Prop} {w : World} (W : World) (l : Nat) (o o' : Obj) (hl : w.heap.size ≤ l) (h : W.heap[l]? = some o) (hc : o.isCells = false) (hw : o.isWalk = false) : KpZ Z W (W.putObj l o') :=
  ⟨(Below.refl _ _).grown (grownBy_putObj' W l o') (Nat.zero_le _) (fun _ _ => Nat.zero_le _), fun k p hk hp hz => by
    rw [(grownBy_putObj' W l o').block k (Array.getElem?_eq_some_iff.1 hk).1 (fun e => by cases e; rw [h] at hk; cases hk; rw [hc] at hp; cases hp)]
    exact hk, walksK_b W l o o' hl h hc hw⟩
theorem cell_isCells {W : World} {a : Addr} {v : Value} (h : W.cell? a = some v) : ∃ o, W.heap[a.block]? = some o ∧ o.isCells = true := by
  unfold World.cell? at h
  split at h
  · rename_i c t f he
    exact ⟨_, he, rfl⟩
  · cases h
theorem KpZ.cell {Z : Nat → Prop} {A B : World} (h : KpZ Z A B) {a : Addr} {v : Value} (hv : A.cell? a = some v) (hz : ¬ Z a.block) : B.cell? a = some v := by
  obtain ⟨o, ho, hc⟩ := cell_isCells hv
  rw [← hv]
  exact World.cell?_of_block (w := A) ((h.2.1 _ o ho hc hz).trans ho.symm)
/-- blocks that are there and not of Z. -/
def Off (Z : Nat → Prop) (W : World) (g : Nat) : Prop := ¬ Z g ∧ g < W.heap.size
theorem IsA.kpz {Z : Nat → Prop} {A B : World} (hk : KpZ Z A B) {ls : List Ty} {v : Value} (h : IsA A (Off Z A) ls v) : IsA B (Off Z B) ls v := by
  induction h with
  | mk ls A' n c g o f hn hc hA hcell hrec ih =>
    refine .mk ls A' n c g o f hn hc (fun h => ⟨(hA h).1, (hA h).2.1, by have := hk.1.size; have := (hA h).2.2; omega⟩) (fun i t hi => ?_) ih
    have h0 : 0 < n := by have := (List.getElem?_eq_some_iff.1 hi).1; omega
    obtain ⟨c0, c1, c2, c3⟩ := hcell i t hi
    have hz := (hA h0).2.1
    exact ⟨hk.cell c0 hz, hk.cell c1 hz, hk.cell c2 hz, hk.cell c3 hz⟩
/-- one part of a type, and where its args are. -/
structure PartX where
  t : Ty
  A : Option Addr
  c : Nat
  hn : t.name.size ≤ 140737488351232
  hl : t.args.length ≤ 2513169434843
  hc : t.args.length ≤ c
def pxEnc (x : PartX) : Array Value := #[tv x.t (.slice x.A x.t.args.length x.c)]
theorem roundIn_wide {n m : Nat} {P : Program} {l : Nat} {f : FuncId} {tmps : Array Value} {assign body : Code} {w : World} {R : Ending → World → Prop} (h : RoundIn Fence.wide n P l f tmps assign body w R) : RoundIn Fence.wide m P l f tmps assign body w R :=
  ⟨h.1, fun c cs _ => h.2 c cs (room_wide _)⟩
theorem partss_drop {ls : List Ty} {k : Nat} {x : Ty} (h : ls[k]? = some x) : partss (ls.drop k) = parts x ++ partss (ls.drop (k + 1)) := by rw [drop_cons h, partss]
set_option maxHeartbeats 2000000 in
theorem walk_any (m l B0 N : Nat) (Z : Nat → Prop) (J Jx : List PartX → World → Prop) (hJ : AbidesFrom B0 J) (hJx : AbidesFrom B0 Jx)
    (hY : ∀ pre x W1, J pre W1 → pre.length < N → YieldAt Fence.wide m Tryz.prog l (pxEnc x) W1 fun e W' => (e = .returned (.bool true) ∧ J (pre ++ [x]) W' ∧ KpZ Z W1 W') ∨ (e = .returned (.bool false) ∧ Jx (pre ++ [x]) W'))
    (n : Nat) : ∀ (t : Ty) (s : Value) (W : World) (pre : List PartX), t.wt ≤ n → fit t → (∀ k, Z k → k < B0) → B0 ≤ W.heap.size → IsA W (Off Z W) t.args s → pre.length + t.wt ≤ N → J pre W →
    Calls Tryz.prog 31 #[tv t s, .func (.yield l) #[] #[]] W fun e W' =>
      (e = .returned (.bool true) ∧ (∃ ys : List PartX, ys.map (·.t) = parts t ∧ J (pre ++ ys) W') ∧ KpZ Z W W') ∨ (e = .returned (.bool false) ∧ ∃ ys : List PartX, ys.map (·.t) <+: parts t ∧ Jx (pre ++ ys) W') := by
  induction n with
  | zero => intro t s W pre hn; have := Ty.wt_eq t; omega
  | succ n ih =>
    intro t s W pre hn hf hZ hB0 hA hN h0
    obtain ⟨A, c, rfl, hc⟩ := hA.form
    have HA := Lib.hid hA
    have HF := Lib.hid hf
    have HN := Lib.hid hn
    have HI := Lib.hid ih
    have HNN := Lib.hid hN
    have HZ := Lib.hid hZ
    have HY := Lib.hid hY
    have hsz := hf.self.2
    have hbx := boxT_new W t (.slice A t.args.length c) 24
    have hJ1 : J pre (W.alloc (.cells #[.int .i64 t.kind, .int .i64 t.num, .string t.name, .slice A t.args.length c] 24)) := hJ pre W _ none h0 (World.grownBy_alloc W _ none) (fun r e => by cases e)
    have hk0 : KpZ Z W (W.alloc (.cells #[.int .i64 t.kind, .int .i64 t.num, .string t.name, .slice A t.args.length c] 24)) := KpZ.of_below ((Below.refl _ _).alloc (Nat.le_refl _) _)
    obtain ⟨M, hM⟩ : ∃ M, M = W.alloc (.cells #[.int .i64 t.kind, .int .i64 t.num, .string t.name, .slice A t.args.length c] 24) := ⟨_, rfl⟩
    have HMs := Lib.hid (show M.heap.size = W.heap.size + 1 by rw [hM]; simp)
    rw [← hM] at hbx hJ1 hk0
    obtain ⟨x0, hx0, hxe⟩ : ∃ x : PartX, x.t = t ∧ pxEnc x = #[.agg #[.int .i64 t.kind, .int .i64 t.num, .string t.name, .slice A t.args.length c]] := ⟨⟨t, A, c, hf.self.1, hf.self.2, hc⟩, rfl, rfl⟩
    obtain ⟨fn, tmps, assign, body, hy, hRR⟩ := hY pre x0 M hJ1 (by have := Ty.wt_eq t; omega)
    replace hRR := roundIn_wide (m := 0) hRR
    rw [hxe] at hy
    have HX0 := Lib.hid hx0
    have HBX := Lib.hid hbx
    have HK0 := Lib.hid hk0
    have HM := Lib.hid hM
    clear hA hf hn ih hN hJ1 hk0 hZ hY hx0 hxe
    obtain ⟨b0, b1, b2, b3⟩ := hbx
    unfold tv
    refine (callsIn_wide (n := 1)).1 ?_
    refine callsIn_of_wp Tryz.func31 rfl trivial ?_ rfl
    simp only [Tryz.ntmps31, List.size_toArray, List.length_cons, List.length_nil, Nat.reduceAdd, Nat.reduceSub, Array.replicate_succ, Array.replicate_zero, List.push_toArray, List.append_toArray, List.nil_append, List.cons_append]
    rw [hM] at hy hRR
    gi_wp2
    clear hy b0 b1 b2 b3
    refine hRR.mono ?_
    clear hRR
    rintro e W3 (⟨rfl, hJ3, hk3⟩ | ⟨rfl, hJx3⟩)
    case inr =>
      have HJX := Lib.hid hJx3
      clear hJx3
      gi_wp2
      go_ret
      exact .inr ⟨rfl, [x0], by rw [parts_eq]; exact ⟨partss t.args, by simp [HX0.out]⟩, HJX.out⟩
    have HJ3 := Lib.hid hJ3
    rw [← hM] at hk3
    have HK3 := Lib.hid hk3
    have hz0 : ¬ Z W.heap.size := fun h => by have := HZ.out _ h; omega
    have HZ0 := Lib.hid hz0
    have HBK := Lib.hid (fun W' (hk : KpZ Z M W') => (⟨hk.cell HBX.out.1 hz0, hk.cell HBX.out.2.1 hz0, hk.cell HBX.out.2.2.1 hz0, hk.cell HBX.out.2.2.2 hz0⟩ : BoxT t (.slice A t.args.length c) W.heap.size W'))
    obtain ⟨b0, b1, b2, b3⟩ := HBK.out W3 hk3
    have HPT := Lib.hid (show [x0].map (·.t) ++ partss (t.args.drop 0) = parts t by rw [parts_eq]; simp [HX0.out])
    obtain ⟨L, hL⟩ : ∃ L, L = t.args.length := ⟨_, rfl⟩
    rw [← hL] at b3 hsz hc HBK HBX HA HM ⊢
    have HL := Lib.hid hL
    clear hJ3 hk3 hL hM hz0
    gi_wp2
    clear b0 b1 b2 b3
    gi_loopw [14] (fun i wr => ∃ (k : Nat) (ys : List PartX), k ≤ L ∧ i = .int .i64 k ∧ RowKit.Hid (ys.map (·.t) ++ partss (t.args.drop k) = parts t) ∧ RowKit.Hid (J (pre ++ ys) wr) ∧ RowKit.Hid (KpZ Z M wr)) (fun i _ => L - (RowKit.intOf i).toNat)
    case atStart => exact ⟨0, [x0], by omega, rfl, HPT.out, HJ3.out, HK3.out⟩
    case round =>
      obtain ⟨k, ys, hk, rfl, HP, HJ, HK⟩ := hrel
      have hAr : IsA wr (Off Z wr) t.args (.slice A L c) := HA.out.kpz (HK0.out.trans HK.out)
      by_cases hlt : k < L
      · obtain ⟨A', c', e, -, hr⟩ := hAr.open
        simp only [Value.slice.injEq] at e
        obtain ⟨rfl, -, rfl⟩ := e
        obtain ⟨g, o, rfl, hg, hr⟩ := hr (by have := HL.out; omega)
        obtain ⟨x, hx⟩ : ∃ x, t.args[k]? = some x := ⟨_, List.getElem?_eq_getElem (by have := HL.out; omega)⟩
        have hxm := List.mem_of_getElem? hx
        obtain ⟨sx, c0, c1, c2, c3, hax⟩ := hr k x hx
        obtain ⟨Ax, cx, rfl, hcx⟩ := hax.form
        have hgl := hg.2
        have HP2 := Lib.hid (show ys.map (·.t) ++ (parts x ++ partss (t.args.drop (k + 1))) = parts t by rw [← partss_drop hx]; exact HP.out)
        have HXW := Lib.hid (Ty.wt_lt hxm)
        have HC := Lib.hid (fun W' (hW : Below wr.heap.size wr W') (hj : J (pre ++ ys) W') => HI.out x (.slice Ax x.args.length cx) W' (pre ++ ys) (by have := Ty.wt_lt hxm; have := HN.out; omega) (HF.out.arg hxm) HZ.out (by have := hW.size; have := HK.out.1.size; have := HMs.out; omega)
          (hax.kpz (KpZ.of_below hW)) (by
            have h1 := congrArg List.length HP2.out
            simp only [List.length_append, List.length_map, parts_len] at h1
            have := HNN.out
            rw [List.length_append]
            omega) hj)
        unfold tv at HC
        clear hx hxm hax hr hAr hg
        have HJ4 := Lib.hid (hJ (pre ++ ys) wr _ none HJ.out (World.grownBy_alloc wr (.cells #[.int .i64 x.kind, .int .i64 x.num, .string x.name, .slice Ax x.args.length cx] 24) none) (fun r e => by cases e))
        have hal : Below wr.heap.size wr (wr.alloc (.cells #[.int .i64 x.kind, .int .i64 x.num, .string x.name, .slice Ax x.args.length cx] 24)) := (Below.refl _ _).alloc (Nat.le_refl _) _
        have HC2 := Lib.hid (HC.out _ hal HJ4.out)
        have HAL := Lib.hid (KpZ.of_below (Z := Z) hal)
        clear hal
        gi_wp2_with fail
        refine ⟨trivial, (callsIn_wide.2 HC2.out).mono ?_⟩
        rintro e W4 (⟨rfl, ⟨zs, hz, hj⟩, hk4⟩ | ⟨rfl, zs, hz, hjx⟩)
        · have HZS := Lib.hid hz
          have HJ5 := Lib.hid hj
          have HK4 := Lib.hid (HK.out.trans (HAL.out.trans hk4))
          clear hz hj hk4
          gi_wp2
          go_roundw
          case rel => exact ⟨k + 1, ys ++ zs, by omega, by go_num, by show (ys ++ zs).map _ ++ _ = _; rw [List.map_append, HZS.out, List.append_assoc]; exact HP2.out, by rw [← List.append_assoc]; exact HJ5.out, HK4.out⟩
          case measure => simp [RowKit.intOf]; omega
        · have HZS := Lib.hid hz
          have HJ5 := Lib.hid hjx
          clear hz hjx
          gi_wp2
          go_ret
          refine .inr ⟨rfl, ys ++ zs, ?_, by rw [← List.append_assoc]; exact HJ5.out⟩
          rw [List.map_append, ← HP2.out]
          obtain ⟨q, hq⟩ := HZS.out
          exact ⟨q ++ partss (t.args.drop (k + 1)), by rw [← hq]; simp⟩
      · gi_wp2
        go_ret
        refine .inl ⟨rfl, ⟨ys, ?_, HJ.out⟩, HK0.out.trans HK.out⟩
        have := HP.out
        rw [List.drop_eq_nil_of_le (by have := HL.out; omega), partss, List.append_nil] at this
        exact this
end Go.Proofs.YtmpmibebkflaiaaGreatDoor
namespace Go.Proofs.YtmpmibebkflaiaaGreatDoor
open Go.RowKit Go.Lib Tp
attribute [local go_sem] Oper.semAt_some
set_option maxRecDepth 100000
set_option linter.unusedVariables false
set_option linter.unusedSectionVars false

theorem KpZ.set {Z : Nat → Prop} (W : World) (a : Addr) (v : Value) (h : Z a.block) : KpZ Z W (W.setCell a v) :=
  ⟨(Below.refl _ _).setCell (Nat.zero_le _) _, fun k o hk _ hz => by rw [Below.heap_setCell W a v k (fun e => hz (by rw [e]; exact h))]; exact hk,
   by simp [World.setCell], fun k o hk hw => by
    by_cases e : k = a.block
    · subst e
      show (W.heap.modify a.block _)[a.block]? = _
      rw [Array.getElem?_modify, if_pos rfl, hk]
      cases o <;> first | rfl | simp [Obj.isWalk] at hw
    · rw [Below.heap_setCell _ _ _ _ e]; exact hk⟩
theorem parts_make (t : Ty) (A : Option Addr) (c : Nat) (w : World) : Calls Tryz.prog 21 #[tv t (.slice A t.args.length c)] w fun e w' => e = .returned (.func (.func 30) #[] #[.pointer (some ⟨w.heap.size, 0, none⟩)]) ∧ w' = w.alloc (.cells #[.int .i64 t.kind, .int .i64 t.num, .string t.name, .slice A t.args.length c] 24) := by
  unfold tv
  go_enter Tryz.func21, Tryz.ntmps21
  go_wp2
  go_ret
  exact ⟨rfl, rfl⟩
theorem parts_in (n : Nat) (hn : 1 ≤ n) (Z : Nat → Prop) (t : Ty) (A : Option Addr) (c Bn : Nat) (w : World) (hf : fit t) (hZ : ∀ k, Z k → k < w.heap.size) (hA : IsA w (Off Z w) t.args (.slice A t.args.length c)) (hbx : BoxT t (.slice A t.args.length c) Bn w) (hzb : ¬ Z Bn) (hBn : Bn < w.heap.size) :
    SeqStopsK Fence.wide n Tryz.prog 30 #[.pointer (some ⟨Bn, 0, none⟩)] pxEnc (KpZ Z) (fun ys => ys.map (·.t) = parts t) (fun ys => ys.map (·.t) <+: parts t) t.wt w := by
  intro l J Jx W hW hJ hJx hY h0
  have hA2 : IsA W (Off Z W) t.args (.slice A t.args.length c) := hA.kpz (KpZ.of_below hW)
  have HBX := Lib.hid (hbx.keep hW hBn)
  obtain ⟨b0, b1, b2, b3⟩ := HBX.out
  have HC := Lib.hid (walk_any (n - 1) l W.heap.size t.wt Z J Jx hJ hJx hY t.wt t _ W [] (Nat.le_refl _) hf (fun k h => by have := hZ k h; have := hW.size; omega) (Nat.le_refl _) hA2 (by simp) h0)
  unfold tv at HC
  clear hY hbx hA hA2 h0
  refine callsIn_of_wp Tryz.func30 rfl trivial ?_ rfl
  simp only [Tryz.ntmps30, List.size_toArray, List.length_cons, List.length_nil, Nat.reduceAdd, Nat.reduceSub, Array.replicate_succ, Array.replicate_zero, List.push_toArray, List.append_toArray, List.nil_append, List.cons_append]
  gi_wp2_with fail
  refine ⟨trivial, (callsIn_wide.2 HC.out).mono ?_⟩
  rintro e w1 (⟨rfl, ⟨ys, hy, hj⟩, -⟩ | ⟨rfl, ys, hy, hj⟩)
  · have HY := Lib.hid hy
    have HJ := Lib.hid hj
    clear hy hj
    gi_wp2
    go_end0
    exact ⟨⟨_, rfl⟩, .inl ⟨ys, HY.out, HJ.out⟩⟩
  · have HY := Lib.hid hy
    have HJ := Lib.hid hj
    clear hy hj
    gi_wp2
    go_end0
    exact ⟨⟨_, rfl⟩, .inr ⟨ys, HY.out, HJ.out⟩⟩
/-- what the loop of Right keeps between two rounds. -/
def RtC (w : World) (n : Nat) (W : World) : Prop := W.cell? ⟨w.heap.size + 1, 0, none⟩ = some (.bool false) ∧ W.frozen? ⟨w.heap.size + 1, 0, none⟩ = false ∧ W.cell? ⟨w.heap.size + 1 + 1, 0, none⟩ = some (.int .i64 n) ∧ W.frozen? ⟨w.heap.size + 1 + 1, 0, none⟩ = false ∧ w.heap.size + 4 ≤ W.heap.size
def RtI (w : World) (pre : List PartX) (W : World) : Prop := (RtC w pre.length W ∧ pre.length ≤ 300 ∧ ∀ x ∈ pre, rightPart nameB x.t = true) ∧ Below w.heap.size w W
def RtX (w : World) (c : Code) (pre : List PartX) (W : World) : Prop :=
  (c = .ret ∧ W.cell? ⟨w.heap.size + 1, 0, none⟩ = some (.bool false) ∧ (300 < pre.length ∨ ∃ x ∈ pre, rightPart nameB x.t = false)) ∧ Below w.heap.size w W
theorem RtC.keep {w W W' : World} {n : Nat} (h : RtC w n W) (hb : Below W.heap.size W W') : RtC w n W' :=
  ⟨(hb.cell (p := ⟨w.heap.size + 1, 0, none⟩) (by have := h.2.2.2.2; show w.heap.size + 1 < _; omega)).trans h.1, (hb.frozen (p := ⟨w.heap.size + 1, 0, none⟩) (by have := h.2.2.2.2; show w.heap.size + 1 < _; omega)).trans h.2.1,
   (hb.cell (p := ⟨w.heap.size + 1 + 1, 0, none⟩) (by have := h.2.2.2.2; show w.heap.size + 1 + 1 < _; omega)).trans h.2.2.1, (hb.frozen (p := ⟨w.heap.size + 1 + 1, 0, none⟩) (by have := h.2.2.2.2; show w.heap.size + 1 + 1 < _; omega)).trans h.2.2.2.1, by have := h.2.2.2.2; have := hb.size; omega⟩
theorem RtC.set {w W : World} {n : Nat} (h : RtC w n W) (m : Nat) : RtC w m (W.setCell ⟨w.heap.size + 1 + 1, 0, none⟩ (.int .i64 m)) := by
  refine ⟨?_, ?_, ?_, ?_, by simp [World.setCell]; exact h.2.2.2.2⟩
  · rw [World.cell?_setCell_other _ _ _ _ (by simp)]; exact h.1
  · rw [World.frozen?_setCell]; exact h.2.1
  · exact World.cell?_setCell_same' _ _ _ (by rw [h.2.2.1]; rfl)
  · rw [World.frozen?_setCell]; exact h.2.2.2.1
theorem KeepsOthers.of_below {W W' : World} (h : Below W.heap.size W W') : KeepsOthers W W' := ⟨h.size, fun k o hk _ => (h.block k (Array.getElem?_eq_some_iff.1 hk).1).trans hk⟩
theorem rtC_own (w : World) (n : Nat) : Own (fun (_ : List PartX) W => RtC w n W) := fun s A B row hs hg hr =>
  ⟨cell_kept hs.1 hg hr, (frozen_kept hs.1 hg hr).trans hs.2.1, cell_kept hs.2.2.1 hg hr, (frozen_kept hs.2.2.1 hg hr).trans hs.2.2.2.1, Nat.le_trans hs.2.2.2.2 hg.size⟩
def rtBoxes (w : World) (t : Ty) (s : Value) : World := (((w.alloc (.cells #[.int .i64 t.kind, .int .i64 t.num, .string t.name, s] 24)).alloc (.cells #[.bool false] 4)).alloc (.cells #[.int .i64 0] 3)).alloc (.cells #[.int .i64 t.kind, .int .i64 t.num, .string t.name, s] 24)
theorem cell_at {W : World} {B : Nat} {v : Value} {t : TypeId} (h : W.heap[B]? = some (.cells #[v] t (0, 0))) : W.cell? ⟨B, 0, none⟩ = some v ∧ W.frozen? ⟨B, 0, none⟩ = false := by
  constructor <;> simp [World.cell?, World.frozen?, h]
theorem rt_boxes (w : World) (t : Ty) (s : Value) : BoxT t s w.heap.size (rtBoxes w t s) ∧ (rtBoxes w t s).cell? ⟨w.heap.size + 1, 0, none⟩ = some (.bool false) ∧ (rtBoxes w t s).frozen? ⟨w.heap.size + 1, 0, none⟩ = false ∧ (rtBoxes w t s).cell? ⟨w.heap.size + 2, 0, none⟩ = some (.int .i64 0) ∧ (rtBoxes w t s).frozen? ⟨w.heap.size + 2, 0, none⟩ = false ∧
    BoxT t s (w.heap.size + 3) (rtBoxes w t s) ∧ Below w.heap.size w (rtBoxes w t s) ∧ (rtBoxes w t s).heap.size = w.heap.size + 4 := by
  have q0 : (rtBoxes w t s).heap[w.heap.size]? = some (.cells #[.int .i64 t.kind, .int .i64 t.num, .string t.name, s] 24) := by
    unfold rtBoxes
    rw [Below.heap_alloc _ _ _ (by simp; omega), Below.heap_alloc _ _ _ (by simp; omega), Below.heap_alloc _ _ _ (by simp)]
    exact heap_alloc_new w _
  have q1 : (rtBoxes w t s).heap[w.heap.size + 1]? = some (.cells #[.bool false] 4) := by
    unfold rtBoxes
    rw [Below.heap_alloc _ _ _ (by simp), Below.heap_alloc _ _ _ (by simp)]
    have := heap_alloc_new (w.alloc (.cells #[.int .i64 t.kind, .int .i64 t.num, .string t.name, s] 24)) (.cells #[.bool false] 4)
    rwa [World.size_alloc] at this
  have q2 : (rtBoxes w t s).heap[w.heap.size + 2]? = some (.cells #[.int .i64 0] 3) := by
    unfold rtBoxes
    rw [Below.heap_alloc _ _ _ (by simp)]
    have := heap_alloc_new ((w.alloc (.cells #[.int .i64 t.kind, .int .i64 t.num, .string t.name, s] 24)).alloc (.cells #[.bool false] 4)) (.cells #[.int .i64 0] 3)
    rwa [World.size_alloc, World.size_alloc] at this
  have q3 : (rtBoxes w t s).heap[w.heap.size + 3]? = some (.cells #[.int .i64 t.kind, .int .i64 t.num, .string t.name, s] 24) := by
    have := heap_alloc_new (((w.alloc (.cells #[.int .i64 t.kind, .int .i64 t.num, .string t.name, s] 24)).alloc (.cells #[.bool false] 4)).alloc (.cells #[.int .i64 0] 3)) (.cells #[.int .i64 t.kind, .int .i64 t.num, .string t.name, s] 24)
    rwa [World.size_alloc, World.size_alloc, World.size_alloc] at this
  refine ⟨boxT_of q0, (cell_at q1).1, (cell_at q1).2, (cell_at q2).1, (cell_at q2).2, boxT_of q3, ?_, by simp [rtBoxes]⟩
  exact ((((Below.refl _ w).alloc (Nat.le_refl _) _).alloc (by simp) _).alloc (by simp; omega) _).alloc (by simp; omega) _
set_option maxHeartbeats 2000000 in
theorem right_any (t : Ty) (s : Value) (w : World) (hf : fit t) (hA : IsA w (Old w) t.args s) :
    Calls Tryz.prog 9 #[tv t s] w fun e w' => e = .returned (.bool (rightF nameB t)) ∧ Below w.heap.size w w' := by
  obtain ⟨A, c, rfl, hc⟩ := hA.form
  have HA := Lib.hid hA
  have HF := Lib.hid hf
  have HC := Lib.hid hc
  clear hA
  unfold tv
  refine (callsIn_wide (n := 3)).1 ?_
  refine callsIn_of_wp_marks Tryz.func9 rfl trivial ?_ rfl
  simp only [Tryz.ntmps9, List.size_toArray, List.length_cons, List.length_nil, Nat.reduceAdd, Nat.reduceSub, Array.replicate_succ, Array.replicate_zero, List.push_toArray, List.append_toArray, List.nil_append, List.cons_append]
  gi_wp2
  refine ⟨trivial, ?_⟩
  gi_at_call 21
  refine (callsIn_wide.2 (parts_make t A c _)).mono ?_
  rintro e w2 ⟨rfl, rfl⟩
  gi_wp2
  show Code.wpIn _ _ _ _ _ _ (rtBoxes w t (.slice A t.args.length c))
  obtain ⟨e0, e1, f1, e2, f2, e3, hB, hs⟩ := rt_boxes w t (.slice A t.args.length c)
  obtain ⟨w1, hw1⟩ : ∃ W, W = rtBoxes w t (.slice A t.args.length c) := ⟨_, rfl⟩
  rw [← hw1] at e0 e1 f1 e2 f2 e3 hB hs ⊢
  have HB := Lib.hid hB
  have HS := Lib.hid hs
  have hA1 : IsA w1 (Off (fun k => k = w.heap.size + 1 ∨ k = w.heap.size + 2) w1) t.args (.slice A t.args.length c) :=
    (HA.out.same fun g hg => hB.block g hg).weak fun g hg => ⟨fun h => by unfold Old at hg; omega, by unfold Old at hg; omega⟩
  clear hB hw1
  refine wpIn_rangeFunc_ownH rfl (by omega) (gf := 30) (lb := #[.pointer (some ⟨w.heap.size + 3, 0, none⟩)]) rfl trivial (enters_of Tryz.func30 (by kernel_rfl) rfl)
    (parts_in 2 (by omega) (fun k => k = w.heap.size + 1 ∨ k = w.heap.size + 2) t A c (w.heap.size + 3) w1 HF.out (fun k h => by omega) hA1 e3 (fun h => by omega) (by omega))
    (fun h k => h.trans k) (fun W l o o' h1 h2 h3 h4 => KpZ.put (w := w1) W l o o' h1 h2 h3 h4) (Below.refl _ _) (fun _ => rfl)
    (RtI w) (RtX w)
    (OwnFrom.and (Own.from (fun s A B row hs hg hr => ⟨rtC_own w s.length s A B row hs.1 hg hr, hs.2⟩) _) (ownFrom_below (by omega) (by omega)))
    (fun c => OwnFrom.and (Own.from (fun s A B row hs hg hr => ⟨hs.1, cell_kept hs.2.1 hg hr, hs.2.2⟩) _) (ownFrom_below (by omega) (by omega)))
    ⟨⟨⟨e1, f1, e2, f2, by omega⟩, by simp, by simp⟩, HB.out⟩
    (fun x a' W => ∃ b, a' = { tmps := #[.agg #[.int .i64 t.kind, .int .i64 t.num, .string t.name, .slice A t.args.length c], .pointer (some ⟨w.heap.size, 0, none⟩), .pointer (some ⟨w.heap.size + 1, 0, none⟩), .pointer (some ⟨w.heap.size + 1 + 1, 0, none⟩), .pointer (some ⟨b, 0, none⟩), .agg #[.int .i64 t.kind, .int .i64 t.num, .string t.name, .slice A t.args.length c], .func (.func 30) #[] #[.pointer (some ⟨w.heap.size + 1 + 1 + 1, 0, none⟩)], tv x.t (.slice x.A x.t.args.length x.c), undef, undef, undef, undef, undef, undef, undef, undef, undef], defers := [] } ∧ BoxT x.t (.slice x.A x.t.args.length x.c) b W ∧ w1.heap.size ≤ b)
    (fun x a' s A B row hs hg hr => by
      obtain ⟨b, e, ⟨h0, h1, h2, h3⟩, hb⟩ := hs
      exact ⟨b, e, ⟨cell_kept h0 hg (fun r e => (hr r e).2), cell_kept h1 hg (fun r e => (hr r e).2), cell_kept h2 hg (fun r e => (hr r e).2), cell_kept h3 hg (fun r e => (hr r e).2)⟩, hb⟩)
    ?assign ?body ?done ?stop
  case assign =>
    rintro l pre x W K hI hK
    dsimp only [pxEnc, tv]
    gi_wp2
    have hal := (Below.refl W.heap.size W).alloc (Nat.le_refl _) (.cells #[.int .i64 x.t.kind, .int .i64 x.t.num, .string x.t.name, .slice x.A x.t.args.length x.c] 24)
    exact hK _ _ ⟨hal.size, fun k o _ hk _ => (hal.block k (Array.getElem?_eq_some_iff.1 hk).1).trans hk⟩ (KpZ.of_below hal) ⟨⟨hI.1.1.keep hal, hI.1.2⟩, hI.2.trans (hal.mono hI.2.size)⟩ ⟨W.heap.size, rfl, boxT_new _ _ _ _, by have := hI.1.1.2.2.2.2; omega⟩
  case body =>
    rintro l pre x a' W hl hr ⟨⟨hC, hp, hall⟩, hb⟩ ⟨b, rfl, hbx, hbb⟩ hlen
    obtain ⟨g1, k1, g2, k2, hsz⟩ := hC
    obtain ⟨x0, x1, x2, x3⟩ := hbx
    have HPB := Lib.hid hb
    have HALL := Lib.hid hall
    have hb4 : w.heap.size + 1 + 1 < b := by omega
    clear hr hb hall
    have hne : b ≠ w.heap.size + 1 + 1 := by omega
    have HCC := Lib.hid (show RtC w pre.length W from ⟨g1, k1, g2, k2, hsz⟩)
    have hzn : ∀ (a : Addr), a.block = w.heap.size + 1 ∨ a.block = w.heap.size + 1 + 1 → w.heap.size ≤ a.block := fun a h => by omega
    by_cases h300 : pre.length = 300
    · unfold tv
      gi_wp2
      refine ⟨trivial, ?_⟩
      gi_wp2
      refine ⟨((KeepsOthers.setCell _ _ _).trans (KeepsOthers.setCell _ _ _)).from _, ⟨rfl, ?_, .inl (by rw [List.length_append, h300]; simp)⟩, (HPB.out.setCell (hzn _ (.inr rfl)) _).setCell (hzn _ (.inl rfl)) _⟩
      exact World.cell?_setCell_same' _ _ _ (by rw [World.cell?_setCell_other _ _ _ _ (by simp), g1]; rfl)
    · have hlt : ¬ (pre.length : Int) + 1 > 300 := by omega
      have h64 : pre.length + 1 ≤ 300 := by omega
      have H3 := Lib.hid h300
      have HRP := Lib.hid (fun W' => rightPart_any x.t x.A x.c W' x.hn x.hl x.hc)
      clear h300
      unfold tv at HRP
      unfold tv
      gi_wp2_with fail
      refine ⟨trivial, (callsIn_wide.2 (HRP.out _)).mono ?_⟩
      rintro e w2 ⟨rfl, hb2⟩
      have hC2 : RtC w (pre.length + 1) (W.setCell ⟨w.heap.size + 1 + 1, 0, none⟩ (.int .i64 ((pre.length + 1 : Nat) : Int))) := HCC.out.set (pre.length + 1)
      rw [show (((pre.length + 1 : Nat) : Int)) = (pre.length : Int) + 1 by omega] at hC2
      have hC3 := hC2.keep hb2
      have hK3 : KeepsOthers W w2 := (KeepsOthers.setCell _ _ _).trans (KeepsOthers.of_below hb2)
      have hB3 : Below w.heap.size w w2 := (HPB.out.setCell (p := ⟨w.heap.size + 1 + 1, 0, none⟩) (hzn _ (.inr rfl)) _).trans (hb2.mono (by have := HPB.out.size; simp [World.setCell]; omega))
      have hZ3 : KpZ (fun k => k = w.heap.size + 1 ∨ k = w.heap.size + 2) W w2 := (KpZ.set W ⟨w.heap.size + 1 + 1, 0, none⟩ _ (.inr rfl)).trans (KpZ.of_below hb2)
      have HC3 := Lib.hid hC3
      have HK3 := Lib.hid hK3
      have HB3 := Lib.hid hB3
      have HZ3 := Lib.hid hZ3
      obtain ⟨p1, q1, p2, q2, -⟩ := hC3
      clear hC2 hK3 hB3 hZ3 hb2 g1 k1 g2 k2 x0 x1 x2 x3
      obtain ⟨rb, hrb⟩ : ∃ b, b = rightPart nameB x.t := ⟨_, rfl⟩
      rw [← hrb]
      have HRB := Lib.hid hrb
      clear hrb
      cases rb
      · gi_wp2
        refine ⟨(HK3.out.trans (KeepsOthers.setCell _ _ _)).from _, ⟨rfl, World.cell?_setCell_same' _ _ _ (by rw [p1]; rfl), .inr ⟨x, by simp, HRB.out.symm⟩⟩, HB3.out.setCell (hzn _ (.inl rfl)) _⟩
      · gi_wp2
        refine ⟨HK3.out.from _, HZ3.out, ⟨by rw [List.length_append]; exact HC3.out, by rw [List.length_append]; simp; omega, fun y hy => ?_⟩, HB3.out⟩
        rcases List.mem_append.1 hy with h | h
        · exact HALL.out y h
        · rw [List.mem_singleton] at h
          rw [h]
          exact HRB.out.symm
  case done =>
    rintro D ys W hD hy ⟨⟨⟨g1, k1, g2, k2, hsz⟩, hp, hall⟩, hb⟩ hK
    have hright : rightF nameB t = true := by
      unfold rightF
      rw [← hy]
      simp only [List.length_map, List.all_map, Bool.and_eq_true, decide_eq_true_iff, List.all_eq_true]
      exact ⟨hp, hall⟩
    have HR := Lib.hid hright
    have HPB := Lib.hid hb
    clear hall hb hy hright
    gi_wp2
    have hK' := (KeepsOthers.setCell W ⟨w.heap.size + 1, 0, none⟩ (.bool true)).same D _ hK rfl
    have c1 : (W.setCell ⟨w.heap.size + 1, 0, none⟩ (.bool true)).cell? ⟨w.heap.size + 1, 0, none⟩ = some (.bool true) := World.cell?_setCell_same' _ _ _ (by rw [g1]; rfl)
    have c2 : ((W.setCell ⟨w.heap.size + 1, 0, none⟩ (.bool true)).putObj D (.deferred none)).cell? ⟨w.heap.size + 1, 0, none⟩ = some (.bool true) := cell_kept c1 (grownBy_putObj' _ D (.deferred none)) (fun r e => by cases e; exact ⟨_, hK', rfl⟩)
    refine ⟨by simp, .inl ⟨_, _, rfl, run_takeDeferred hK', ?_⟩⟩
    refine ⟨.bool true, ?_, by rw [HR.out], (HPB.out.setCell (p := ⟨w.heap.size + 1, 0, none⟩) (by show _ ≤ w.heap.size + 1; omega) _).trans (belowK_b (w := w) (Nat.le_refl _) _ D _ _ (by omega) hK' rfl rfl)⟩
    simp [results, Tryz.f9, go_sem, c2]
  case stop =>
    rintro D c' pre W hD hpre ⟨⟨rfl, g1, hx⟩, hb⟩ hK
    have hright : rightF nameB t = false := by
      unfold rightF
      rw [Bool.eq_false_iff]
      intro h
      rw [Bool.and_eq_true, decide_eq_true_iff, List.all_eq_true] at h
      rcases hx with h3 | ⟨x, hx, hr⟩
      · have := hpre.length_le
        rw [List.length_map] at this
        omega
      · have := h.2 x.t (hpre.subset (List.mem_map.2 ⟨x, hx, rfl⟩))
        rw [hr] at this
        cases this
    have HR := Lib.hid hright
    have HPB := Lib.hid hb
    clear hx hpre hb hright
    gi_wp2
    have c2 : (W.putObj D (.deferred none)).cell? ⟨w.heap.size + 1, 0, none⟩ = some (.bool false) := cell_kept g1 (grownBy_putObj' _ D (.deferred none)) (fun r e => by cases e; exact ⟨_, hK, rfl⟩)
    refine ⟨by simp, .inl ⟨_, _, rfl, run_takeDeferred hK, ?_⟩⟩
    refine ⟨.bool false, ?_, by rw [HR.out], HPB.out.trans (belowK_b (w := w) (Nat.le_refl _) W D _ _ (by omega) hK rfl rfl)⟩
    simp [results, Tryz.f9, go_sem, c2]
end Go.Proofs.YtmpmibebkflaiaaGreatDoor
