/- The contract of frame's iterator lines. -/
import Derived.Shelf.Abstract
import Derived.Shelf.RegionOpen
import Derived.WalkKit
import Derived.OwnWalkIn
import Derived.TacticsInMore
import Derived.LoopNIn
import Derived.LoopIn
import Derived.Test.YtphnplpgeoleeaaDoorBox
import Derived.Test.YtphnplpgeoleeaaDoorFraC
import Derived.Test.YtphnplpgeoleeaaDoorShelfG
namespace Go.Proofs.YtphnplpgeoleeaaDoor
open Go.RowKit Go.Lib Go.Shelf
attribute [local go_sem] Oper.semAt_some
set_option maxRecDepth 100000
set_option linter.unusedVariables false
set_option linter.unusedSectionVars false

/-- internal/bytealg's variable MaxLen has some value. -/
def MaxL (w : World) : Prop := ∃ m : Int, w.cell? ⟨0, 0, none⟩ = some (.int .i64 m)
theorem maxL_lt {w : World} (h : MaxL w) : 0 < w.heap.size := by
  obtain ⟨m, hm⟩ := h
  rcases Nat.lt_or_ge 0 w.heap.size with h | h
  · exact h
  · simp [World.cell?, h] at hm
theorem maxL_below {w w' : World} {B : Nat} (h : MaxL w) (hb : Below B w w') (hB : 0 < B) : MaxL w' := by
  obtain ⟨m, hm⟩ := h
  exact ⟨m, (hb.cell (p := ⟨0, 0, none⟩) hB).trans hm⟩
theorem maxL_drewN {w : World} (h : MaxL w) (n : Nat) : MaxL (w.drewN n) := h
theorem cut_any (s sep : ByteArray) (hs : s.size < 4294967281) (w : World) (hM : MaxL w) : Calls Tryd.prog 38 #[.string s, .string sep] w fun e w' => e = .returned (.tuple #[.string ⟨(Lib.cut s.data.toList sep.data.toList).1.toArray⟩, .string ⟨(Lib.cut s.data.toList sep.data.toList).2.1.toArray⟩, .bool (Lib.cut s.data.toList sep.data.toList).2.2]) ∧ ∃ n, w' = w.drewN n := by
  obtain ⟨m, hm⟩ := hM
  exact Any.strings_Cut { Tryd.laysM145 with } s sep m w hs hm
theorem grownBy_drewN (w : World) (n : Nat) : w.grownBy (w.drewN n) none := ⟨rfl, rfl, rfl, Nat.le_refl _, fun _ _ _ => rfl⟩
/-- what a round of lines keeps. -/
def KpL (Bn : Nat) (A B : World) : Prop := B.heap[Bn]? = A.heap[Bn]? ∧ B.heap[(0 : Nat)]? = A.heap[(0 : Nat)]?
theorem maxL_kept {w w' : World} (h : MaxL w) (hb : w'.heap[(0 : Nat)]? = w.heap[(0 : Nat)]?) : MaxL w' := by
  obtain ⟨m, hm⟩ := h
  exact ⟨m, (World.cell?_of_block (w := w) (w' := w') (a := ⟨0, 0, none⟩) hb).trans hm⟩
def bs (l : List UInt8) : ByteArray := ⟨l.toArray⟩
theorem bs_list (l : List UInt8) : (bs l).data.toList = l := by simp [bs]
theorem bs_size (l : List UInt8) : (bs l).size = l.length := by simp [bs, ByteArray.size]
theorem bs_empty (l : List UInt8) : (bs l).toList.isEmpty = decide (l = []) := by
  rw [Lib.toList_data, bs_list]
  cases l <;> rfl
def lEnc (x : List UInt8) : Array Value := #[.string (bs x)]
set_option maxHeartbeats 2000000 in
theorem lines_any (n : Nat) (hn : 1 ≤ n) (l Bn : Nat) (s : ByteArray) (J Jx : List (List UInt8) → World → Prop) (W : World) (hB1 : 0 < Bn)
    (hc : Boxed W Bn 9 (.string s)) (hM : MaxL W) (hs : s.size < 4294967281) (hJ : AbidesO W.heap.size (fun r => r = Bn) J) (hJx : AbidesO W.heap.size (fun r => r = Bn) Jx)
    (hY : ∀ pre x W1, J pre W1 → (pre ++ [x]) <+: linesF s.data.toList → YieldAt Fence.wide (n - 1) Tryd.prog l (lEnc x) W1 fun e W' =>
      (e = .returned (.bool true) ∧ J (pre ++ [x]) W' ∧ KpL Bn W1 W') ∨ (e = .returned (.bool false) ∧ Jx (pre ++ [x]) W')) (h0 : J [] W) :
    CallsIn Fence.wide n Tryd.prog 51 #[.func (.yield l) #[] #[], .pointer (some ⟨Bn, 0, none⟩)] W fun e W' => (∃ v, e = .returned v) ∧
      ((∃ ys, ys = linesF s.data.toList ∧ J ys W') ∨ (∃ pre, pre <+: linesF s.data.toList ∧ Jx pre W')) := by
  refine callsIn_of_wp Tryd.func51 rfl trivial ?_ rfl
  simp only [Tryd.ntmps51, List.size_toArray, List.length_cons, List.length_nil, Nat.reduceAdd, Nat.reduceSub, Array.replicate_succ, Array.replicate_zero, List.push_toArray, List.append_toArray, List.nil_append, List.cons_append]
  gi_wp2
  gi_loopw [] (fun wr => ∃ (h : List UInt8) (f : Nat) (pre : List (List UInt8)), h.length ≤ s.size ∧ h.length ≤ f ∧ RowKit.Hid (Boxed wr Bn 9 (.string (bs h))) ∧ RowKit.Hid (MaxL wr) ∧ RowKit.Hid (J pre wr) ∧ RowKit.Hid (linesF s.data.toList = pre ++ linesN f h)) (fun wr => match wr.cell? ⟨Bn, 0, none⟩ with | some (.string h) => h.size | _ => 0)
  case atStart =>
    refine ⟨s.data.toList, s.size, [], by simp, by simp, ?_, hM, h0, ?_⟩
    · show Boxed W Bn 9 (.string (bs s.data.toList))
      have : bs s.data.toList = s := by simp [bs]
      rw [this]
      exact hc
    · show linesF s.data.toList = [] ++ linesN s.size s.data.toList
      unfold linesF
      simp
  case round =>
    obtain ⟨h, f, pre, hhs, hhf, HB, HM, HJ0, HPL⟩ := hrel
    have hcell := HB.out.cell
    have HCUT := Lib.hid (cut_any (bs h) ⟨#[13, 10]⟩ (by rw [bs_size]; omega) wr HM.out)
    rw [bs_list] at HCUT
    obtain ⟨ln, hln⟩ : ∃ ln, ln = (Lib.cut h nl).1 := ⟨_, rfl⟩
    obtain ⟨rs, hrs⟩ : ∃ rs, rs = (Lib.cut h nl).2.1 := ⟨_, rfl⟩
    obtain ⟨fd, hfd⟩ : ∃ fd, fd = (Lib.cut h nl).2.2 := ⟨_, rfl⟩
    have hlen2 := cut_len h nl
    have hle2 : ln ≠ [] → rs.length + 1 ≤ h.length := by rw [hln, hrs]; exact cut_rest h
    have HCUT2 : RowKit.Hid (Calls Tryd.prog 38 #[.string (bs h), .string ⟨#[13, 10]⟩] wr fun e w' => e = .returned (.tuple #[.string (bs ln), .string (bs rs), .bool fd]) ∧ ∃ n, w' = wr.drewN n) := by
      rw [hln, hrs, hfd]
      exact HCUT.out
    have hemp := bs_empty ln
    by_cases hl0 : ln = []
    · rw [decide_eq_true hl0] at hemp
      have HP := Lib.hid (show linesF s.data.toList = pre by
        rw [HPL.out]
        cases f with
        | zero => simp [linesN]
        | succ f => rw [linesN, if_pos (by rw [← hln]; exact hl0), List.append_nil])
      clear hln hrs hfd HCUT hlen2 hle2 hl0
      gi_wp2
      refine ⟨trivial, ?_⟩
      gi_at_call 38
      refine (callsIn_wide.2 HCUT2.out).mono ?_
      rintro e w1 ⟨rfl, q, rfl⟩
      gi_wp2
      refine ⟨nofun, ?_⟩
      gi_wp2
      refine bodyPost_ret (results_none rfl _ _ _) rfl ?_
      exact ⟨⟨_, rfl⟩, .inl ⟨_, HP.out.symm, hJ _ _ _ none HJ0.out (grownBy_drewN wr q) (fun r e => by cases e)⟩⟩
    · rw [decide_eq_false hl0] at hemp
      have hrl := hle2 hl0
      obtain ⟨f2, rfl⟩ : ∃ f2, f = f2 + 1 := ⟨f - 1, by omega⟩
      have HP := Lib.hid (show linesF s.data.toList = (pre ++ [ln]) ++ linesN f2 rs by
        rw [HPL.out, linesN, if_neg (by rw [← hln]; exact hl0), ← hln, ← hrs]
        simp)
      have hlen : (pre ++ [ln]) <+: linesF s.data.toList := ⟨_, HP.out.symm⟩
      have hrs2 : rs.length ≤ s.size := by omega
      have hrf2 : rs.length ≤ f2 := by omega
      clear hln hrs hfd HCUT hlen2 hle2 hl0
      gi_wp2
      refine ⟨trivial, ?_⟩
      gi_at_call 38
      refine (callsIn_wide.2 HCUT2.out).mono ?_
      rintro e w1 ⟨rfl, q, rfl⟩
      obtain ⟨fn, tmps, assign, body, hy, hRR⟩ := hY pre ln (wr.drewN q) (hJ _ _ _ none HJ0.out (grownBy_drewN wr q) (fun r e => by cases e)) hlen
      dsimp only [lEnc] at hy
      gi_wp2
      refine hRR.mono ?_
      rintro e W3 (⟨rfl, hJ3, hk3⟩ | ⟨rfl, hJx3⟩)
      · have HB3 := Lib.hid (show Boxed W3 Bn 9 (.string (bs h)) from hk3.1.trans HB.out)
        have HM3 := Lib.hid (maxL_kept (maxL_drewN HM.out q) hk3.2)
        have HJ3 := Lib.hid hJ3
        have hc3 := HB3.out.cell
        have hf3 := HB3.out.frozen
        clear hJ3 hk3
        gi_wp2
        go_roundw
        case rel => exact ⟨rs, f2, pre ++ [ln], hrs2, hrf2, HB3.out.set _, maxL_below HM3.out (B := Bn) ((Below.refl _ _).setCell (p := ⟨Bn, 0, none⟩) (Nat.le_refl _) _) hB1, hJ _ _ _ (some Bn) HJ3.out (grownBy_setCell' W3 Bn _) (fun r e => by cases e; exact .inr rfl), HP.out⟩
        case measure =>
          rw [hcell, (HB3.out.set _).cell]
          show (bs rs).size < (bs h).size
          rw [bs_size, bs_size]
          omega
      · have HJX := Lib.hid hJx3
        clear hJx3
        gi_wp2
        refine bodyPost_ret (results_none rfl _ _ _) rfl ?_
        exact ⟨⟨_, rfl⟩, .inr ⟨pre ++ [ln], ⟨_, HP.out.symm⟩, HJX.out⟩⟩
/-- the iterator's contract. -/
theorem lines_seq (n : Nat) (hn : 1 ≤ n) (Bn : Nat) (s : ByteArray) (w : World) (hB1 : 0 < Bn) (hBn : Bn < w.heap.size) (hc : Boxed w Bn 9 (.string s)) (hM : MaxL w) (hs : s.size < 4294967281) :
    SeqO Fence.wide n Tryd.prog 51 #[.pointer (some ⟨Bn, 0, none⟩)] lEnc (fun r => r = Bn) (KpL Bn) (fun ys => ys = linesF s.data.toList) (fun pre => pre <+: linesF s.data.toList) (fun pre => pre <+: linesF s.data.toList) w := fun l J Jx W hW hJ hJx hY h0 =>
  lines_any n hn l Bn s J Jx W hB1 ((hW.block Bn hBn).trans hc) (maxL_below hM hW (by omega)) hs hJ hJx hY h0
theorem lines_make (s : ByteArray) (w : World) : Calls Tryd.prog 37 #[.string s] w fun e w' => e = .returned (.func (.func 51) #[] #[.pointer (some ⟨w.heap.size, 0, none⟩)]) ∧ w' = w.alloc (.cells #[.string s] 9) := by
  go_enter Tryd.func37, Tryd.ntmps37
  go_wp2
  go_ret
  exact ⟨rfl, rfl⟩
end Go.Proofs.YtphnplpgeoleeaaDoor
