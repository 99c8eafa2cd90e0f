/- The contract of the reader's named over that of whole. -/
import Derived.Test.YtmpmibebkflaiaaGreatDoorTypRf
namespace Go.Proofs.YtmpmibebkflaiaaGreatDoor
open Go.RowKit Go.Lib Go.Shelf Go.Sort Tp
set_option maxRecDepth 100000
set_option linter.unusedVariables false
set_option linter.unusedSectionVars false

def TicksOk (S : ByteArray) (ts : List Lx.Tok) : Prop := ∀ i, (hereT ts i).kind = 4 → TickOk (wordT S ts i)
theorem wordT_size (S : ByteArray) (ts : List Lx.Tok) (i : Nat) : (wordT S ts i).size ≤ S.size := by
  unfold wordT wordF
  split
  · rw [ByteArray.size_extract]
    omega
  · exact Nat.zero_le _
theorem run_kind (k a b : Int) (W : World) : (Instr.field 68 (.agg #[.int .i64 k, .int .i64 a, .int .i64 b]) 0).run Tryz.prog W = .ok (.int .i64 k) W := by kernel_rfl
/-- named stands at its loop: what it has read. -/
def HeadAt (B r : Nat) (S : ByteArray) (ts : List Lx.Tok) (k i : Nat) (b : Bool) (w WF : World) : Prop := ∃ t0 i0 c A0 c0, HeadR (WholeR S ts k) S ts i b t0 i0 c ∧ i ≤ i0 ∧ RdA B r S ts i0 c WF ∧
  WF.heap[w.heap.size]? = some (.cells #[.int .i64 0, .int .i64 0, .string ⟨#[]⟩, .slice none 0 0] 24) ∧ WF.heap[w.heap.size + 1]? = some (.cells #[.int .i64 t0.kind, .int .i64 t0.num, .string t0.name, .slice A0 t0.args.length c0] 24) ∧
  IsA WF (New (w.heap.size + 2) WF) t0.args (.slice A0 t0.args.length c0) ∧ w.grownBy WF (some r)
theorem head_at {B r : Nat} {S : ByteArray} {ts : List Lx.Tok} {k i : Nat} {b : Bool} {w w1 : World} {t0 : Ty} {i0 : Nat} {c : Bool} {A0 : Option Addr} {c0 : Nat} {x0 x1 x2 x3 : Value} (hh : HeadR (WholeR S ts k) S ts i b t0 i0 c) (hi : i ≤ i0) (hR : RdA B r S ts i0 c w1) (hr : r < w.heap.size)
    (h0 : w1.heap[w.heap.size]? = some (.cells #[.int .i64 0, .int .i64 0, .string ⟨#[]⟩, .slice none 0 0] 24)) (h1 : w1.heap[w.heap.size + 1]? = some (.cells #[x0, x1, x2, x3] 24)) (hA : IsA w1 (New (w.heap.size + 2) w1) t0.args (.slice A0 t0.args.length c0)) (hg : w.grownBy w1 (some r)) :
    HeadAt B r S ts k i b w (put4 w1 (w.heap.size + 1) (.int .i64 t0.kind) (.int .i64 t0.num) (.string t0.name) (.slice A0 t0.args.length c0)) :=
  ⟨t0, i0, c, A0, c0, hh, hi, hR.keep fun k hk => put4_other (by omega) _ _ _ _, (put4_other (by omega) _ _ _ _).trans h0, put4_blk h1 _ _ _ _, new_put hA (by omega) (by omega) _ _ _ _, (rd_put hR hg hr _ (by omega) _ _ _ _).2⟩
theorem drew1 (w : World) : Below w.heap.size w w.drew := below_drewN (Below.refl _ w) 1
theorem drew2 (w : World) (o : Obj) : Below w.heap.size w (w.alloc o).drew := below_drewN ((Below.refl _ w).alloc (Nat.le_refl _) o) 1
theorem RdA.put {B r : Nat} {S : ByteArray} {ts : List Lx.Tok} {i : Nat} {b : Bool} {W : World} (h : RdA B r S ts i b W) {g : Nat} (hg : r < g) (x0 x1 x2 x3 : Value) : RdA B r S ts i b (put4 W g x0 x1 x2 x3) := h.keep fun k hk => put4_other (by omega) _ _ _ _
theorem grow_put {w W : World} {r : Nat} (h : w.grownBy W (some r)) {g : Nat} (hg : w.heap.size ≤ g) (x0 x1 x2 x3 : Value) : w.grownBy (put4 W g x0 x1 x2 x3) (some r) :=
  ⟨h.os, h.tape, h.output, by rw [put4_size]; exact h.size, fun k hk hne => (put4_other (by omega) _ _ _ _).trans (h.block k hk hne)⟩
theorem one_kept {w7 w8 : World} {r B : Nat} {u : Ty} {s : Value} (hI : IsA w7 (New B w7) u.args s) (hB : B ≤ w7.heap.size) (hrB : r < B)
    (hg : ((w7.alloc (.cells #[.int .i64 u.kind, .int .i64 u.num, .string u.name, s] 24)).drew).grownBy w8 (some r)) : IsA w8 (New B w8) [u] (.slice (some ⟨w7.heap.size, 0, none⟩) 1 1) :=
  ((Tys.one hI hB _ rfl).isNew.same fun g h => hg.block g h.2 (fun e => by cases e; have := h.1; omega)).weak fun g h => ⟨h.1, Nat.lt_of_lt_of_le h.2 hg.size⟩
theorem one_new {w8 : World} {B g : Nat} {u : Ty} {s : Value} (hI : IsA w8 (New B w8) u.args s) (hB : B ≤ w8.heap.size) (hg : g < B) (x0 x1 x2 x3 : Value) (n : Nat) (hn : n = w8.heap.size) :
    IsA ((put4 w8 g x0 x1 x2 x3).alloc (.cells #[.int .i64 u.kind, .int .i64 u.num, .string u.name, s] 24)) (New B ((put4 w8 g x0 x1 x2 x3).alloc (.cells #[.int .i64 u.kind, .int .i64 u.num, .string u.name, s] 24))) [u] (.slice (some ⟨n, 0, none⟩) 1 1) :=
  (Tys.one (new_put hI hg (Nat.le_refl _) x0 x1 x2 x3) (by rw [put4_size]; exact hB) n (by rw [put4_size]; exact hn)).isNew
set_option maxHeartbeats 4000000 in
theorem named_any {B r : Nat} {S : ByteArray} {ts : List Lx.Tok} (k : Nat) (hk : k ≤ 300) (hW : WholeAt B r S ts k) (hn : ts.length ≤ 1000000000) (hs : S.size ≤ 1000000000) (hT : TicksOk S ts)
    (i : Nat) (b : Bool) (w : World) (d : Int) (hd : d = 300 - (k : Int)) (h : RdA B r S ts i b w) (hE : ErrsB B w) :
    Calls Tryz.prog 43 #[.pointer (some ⟨r, 0, none⟩), .int .i64 d] w (StPost B r S ts (NamedR (WholeR S ts k) S ts) i b w) := by
  obtain ⟨M, hM⟩ : ∃ M, M = (w.alloc (.cells #[.int .i64 0, .int .i64 0, .string ⟨#[]⟩, .slice none 0 0] 24)).alloc (.cells #[.int .i64 0, .int .i64 0, .string ⟨#[]⟩, .slice none 0 0] 24) := ⟨_, rfl⟩
  have hMb : Below w.heap.size w M := by rw [hM]; exact ((Below.refl _ _).alloc (Nat.le_refl _) _).alloc (by simp) _
  have hMs : M.heap.size = w.heap.size + 2 := by rw [hM]; simp
  have hbk : M.heap[w.heap.size]? = some (.cells #[.int .i64 0, .int .i64 0, .string ⟨#[]⟩, .slice none 0 0] 24) := by rw [hM]; exact lit_on (heap_alloc_new w _) _
  have hbt : M.heap[w.heap.size + 1]? = some (.cells #[.int .i64 0, .int .i64 0, .string ⟨#[]⟩, .slice none 0 0] 24) := by rw [hM]; exact obj_new _ _ _ (by simp)
  have hr := h.lt
  have hBr : B ≤ r := by obtain ⟨_, _, _, _, hB, _⟩ := h; exact hB
  have hRM := h.below hMb
  have HH := Lib.hid (here_any hRM hn)
  have HBra := Lib.hid (fun i b W => bracket_any k hk hW hn hs i b W d hd)
  have HEM := Lib.hid (hE.on (hMb.mono (by omega)))
  have HRM := Lib.hid hRM
  have HM := Lib.hid hM
  have HMs := Lib.hid hMs
  have HMB := Lib.hid hMb
  have HBK := Lib.hid hbk
  have HBT := Lib.hid hbt
  have HNs := Lib.hid hn
  have HSs := Lib.hid hs
  have HTs := Lib.hid hT
  have HTI := Lib.hid (show (hereT ts i).kind = 4 → TickOk (wordT S ts i) from hT i)
  clear hW hM hMs hMb hbk hbt hd h hE hn hs hRM hT
  obtain ⟨t, ht⟩ : ∃ t, t = hereT ts i := ⟨_, rfl⟩
  have HTH := Lib.hid ht
  by_cases h4 : (hereT ts i).kind = 4
  · have hv := fun W (hR : RdA B r S ts i b W) (hE : ErrsB B W) => variable_any hR HNs.out HSs.out h4 (wordT S ts i) (Nat.le_trans (wordT_size S ts i) HSs.out) rfl (HTI.out h4) hE
    have HV := Lib.hid hv
    have hhd : ∀ t0 i0 c, HeadR (WholeR S ts k) S ts i b t0 i0 c ↔ (match varN (wordT S ts i).data.toList with | some n => t0 = .mk 1 n ⟨#[]⟩ [] ∧ i0 = i + 1 ∧ c = b | none => t0 = zeroT ∧ i0 = i + 1 ∧ c = true) := fun t0 i0 c => by unfold HeadR; rw [if_pos h4]; exact Iff.rfl
    have HHD := Lib.hid hhd
    rw [← ht] at HH h4
    rw [h4] at HH
    clear hv hhd ht
    have hkd := run_kind
    go_enter Tryz.func43, Tryz.ntmps43
    go_wp2_with fail
    rw [← HM.out]
    refine HH.out.mono ?_
    rintro e w1 ⟨rfl, hb1⟩
    have hrd1 := HRM.out.below hb1
    have hs1 := hb1.size
    have HB1 := Lib.hid hb1
    have HVC := Lib.hid (HV.out w1 hrd1 (HEM.out.on (hb1.mono (by have := HMs.out; omega))))
    clear hrd1 hb1
    unfold VarPost at HVC
    cases hvn : varN (wordT S ts i).data.toList with
    | none =>
      rw [hvn] at HVC
      simp only at HVC
      go_wp2_with fail
      refine HVC.out.mono ?_
      rintro e w2 ⟨rfl, hrd2, hg2⟩
      have hsz2 := hg2.size
      have hsz1 := HMs.out
      have hrow0 := (hg2.block w.heap.size (by omega) (fun e => by cases e; omega)).trans ((HB1.out.block _ (by omega)).trans HBK.out)
      have hrow1 := (hg2.block (w.heap.size + 1) (by omega) (fun e => by cases e; omega)).trans ((HB1.out.block _ (by omega)).trans HBT.out)
      obtain ⟨⟨r0, r1, r2, r3⟩, fr0, fr1, fr2, fr3⟩ := row4 hrow1
      have hwg : w.grownBy w2 (some r) := (grown_of HMB.out r).trans ((grown_of HB1.out r).trans hg2)
      go_wp2_with fail
      obtain ⟨WF, hWF⟩ : ∃ WF, WF = put4 w2 (w.heap.size + 1) (.int .i64 0) (.int .i64 0) (.string ⟨#[]⟩) (.slice none 0 0) := ⟨_, rfl⟩
      have HHA := Lib.hid (show HeadAt B r S ts k i b w WF by
        rw [hWF]
        exact head_at (t0 := zeroT) ((HHD.out _ _ _).2 (by rw [hvn]; exact ⟨rfl, rfl, rfl⟩)) (by omega) hrd2 hr hrow0 hrow1 (IsA.nil _ _ _ _) hwg)
      unfold put4 at hWF
      rw [← hWF]
      clear hWF hrow0 hrow1 hwg hrd2 hg2 r0 r1 r2 r3 fr0 fr1 fr2 fr3
      clear HVC HV HHD
      obtain ⟨t0, i0, c, A0, c0, hhd, hi0, hrdF, hb0, hb1, hA0, hgF⟩ := HHA.out
      have HHd := Lib.hid hhd
      have HF1 := Lib.hid hrdF
      have HF2 := Lib.hid hb0
      have HF3 := Lib.hid hb1
      have HF4 := Lib.hid hA0
      have HF5 := Lib.hid hgF
      clear hhd hrdF hb0 hb1 hA0 hgF HHA
      go_loopw [] (fun wr => ∃ (u : Ty) (j : Nat) (As : Option Addr) (cs : Nat), RowKit.Hid (NamesTo S ts t0 i0 u j) ∧ RowKit.Hid (i ≤ j) ∧ RowKit.Hid (RdA B r S ts j c wr) ∧ RowKit.Hid (wr.heap[w.heap.size]? = some (.cells #[.int .i64 0, .int .i64 0, .string ⟨#[]⟩, .slice none 0 0] 24)) ∧ RowKit.Hid (wr.heap[w.heap.size + 1]? = some (.cells #[.int .i64 u.kind, .int .i64 u.num, .string u.name, .slice As u.args.length cs] 24)) ∧ RowKit.Hid (IsA wr (New (w.heap.size + 2) wr) u.args (.slice As u.args.length cs)) ∧ RowKit.Hid (w.grownBy wr (some r))) (fun wr => ts.length - atOf r wr)
      case atStart => exact ⟨t0, i0, A0, c0, .nil _ _, hi0, HF1.out, HF2.out, HF3.out, HF4.out, HF5.out⟩
      case round =>
        obtain ⟨u, j, As, cs, HNT, HIJ, HRD, HB0, HB1, HIA, HG⟩ := hrel
        have hat := HRD.out.at
        have hwz : w.heap.size + 1 < wr.heap.size := (Array.getElem?_eq_some_iff.1 HB1.out).1
        obtain ⟨q, hq⟩ : ∃ q, q = hereT ts j := ⟨_, rfl⟩
        have HQ := Lib.hid hq
        have HHR := Lib.hid (here_any HRD.out HNs.out)
        rw [← hq] at HHR
        clear hq
        by_cases hk1 : q.kind = 1
        · have hwd := (fun W (hR : RdA B r S ts j c W) => word_yes 1 hR HNs.out (by have := HSs.out; omega) (by rw [← HQ.out]; exact hk1) (by omega))
          rw [hk1] at HHR
          have hlt : j < ts.length := here_lt (by rw [← HQ.out, hk1]; decide)
          have HK1 := Lib.hid hk1
          clear hk1
          go_wp2_with fail
          refine HHR.out.mono ?_
          rintro e w7 ⟨rfl, hb7⟩
          have hrow0 := (hb7.block w.heap.size (by omega)).trans HB0.out
          have hrow1 := (hb7.block (w.heap.size + 1) hwz).trans HB1.out
          obtain ⟨⟨y0, y1, y2, y3⟩, fy0, fy1, fy2, fy3⟩ := row4 hrow1
          have HR0 := Lib.hid hrow0
          have HR1 := Lib.hid hrow1
          have hs7 := hb7.size
          have HRD7 := Lib.hid (HRD.out.below hb7)
          have HIA7 := Lib.hid (HIA.out.newer hb7 (Nat.le_refl _))
          have HG7 := Lib.hid (HG.out.trans (grown_of hb7 r))
          have hz7 : w.heap.size + 1 < w7.heap.size := by omega
          have HWD := Lib.hid (fun W (hb : Below w7.heap.size w7 W) => hwd W (HRD7.out.below hb))
          clear hrow0 hrow1 hb7 HHR hwd
          go_wp2_with fail
          go_region_law (first
            | (rw [if_pos (by simp [Region.wanted])]
               go_simp
               go_at_call 60
               first
                 | (refine (HWD.out _ (drew1 _)).mono ?_
                    rintro e w8 ⟨rfl, hrd8, hg8⟩
                    have hrow1 := (hg8.block (w.heap.size + 1) hz7 (fun e => by cases e; omega)).trans HR1.out
                    obtain ⟨⟨y0, y1, y2, y3⟩, fy0, fy1, fy2, fy3⟩ := row4 hrow1
                    have HG8 := Lib.hid ((HG7.out.trans (grown_of (drew1 w7) r)).trans hg8)
                    have HRW0 := Lib.hid ((hg8.block w.heap.size (Nat.lt_of_succ_lt hz7) (fun e => by cases e; omega)).trans HR0.out)
                    have HRW1 := Lib.hid hrow1
                    have HRD8 := Lib.hid hrd8
                    have HIAX := Lib.hid (show IsA w8 (New (w.heap.size + 2) w8) u.args (.slice As u.args.length cs) from (HIA7.out.same fun g h => hg8.block g h.2 (fun e => by cases e; have := h.1; omega)).weak fun g h => ⟨h.1, Nat.lt_of_lt_of_le h.2 hg8.size⟩)
                    have hz8 : w.heap.size + 1 < w8.heap.size := Nat.lt_of_lt_of_le hz7 hg8.size
                    have HONE := Lib.hid True.intro)
                 | (refine (HWD.out _ (drew2 _ _)).mono ?_
                    rintro e w8 ⟨rfl, hrd8, hg8⟩
                    have hrow1 := (hg8.block (w.heap.size + 1) (by simp; omega) (fun e => by cases e; omega)).trans (lit_d (lit_on HR1.out _))
                    obtain ⟨⟨y0, y1, y2, y3⟩, fy0, fy1, fy2, fy3⟩ := row4 hrow1
                    have HG8 := Lib.hid ((HG7.out.trans (grown_of (drew2 w7 _) r)).trans hg8)
                    have HRW0 := Lib.hid ((hg8.block w.heap.size (by simp; omega) (fun e => by cases e; omega)).trans (lit_d (lit_on HR0.out _)))
                    have HRW1 := Lib.hid hrow1
                    have HRD8 := Lib.hid hrd8
                    have HIAX := Lib.hid True.intro
                    have hz8 : w.heap.size + 1 < w8.heap.size := Nat.lt_of_lt_of_le (by simp; omega) hg8.size
                    have HONE := Lib.hid (one_kept HIA7.out (by omega) (by omega) hg8))))
          all_goals
            go_wp2_with fail
            first
              | (obtain ⟨WZ, hWZ⟩ : ∃ WZ, WZ = (put4 w8 (w.heap.size + 1) (.int .i64 2) (.int .i64 0) (.string (wordF S (hereT ts j).a (hereT ts j).b)) (.slice (some ⟨w8.heap.size, 0, none⟩) 1 1)).alloc (.cells #[.int .i64 u.kind, .int .i64 u.num, .string u.name, .slice As u.args.length cs] 24) := ⟨_, rfl⟩
                 have hone := one_new (g := w.heap.size + 1) HIAX.out (by omega) (by omega) (.int .i64 2) (.int .i64 0) (.string (wordF S (hereT ts j).a (hereT ts j).b)) (.slice (some ⟨w8.heap.size, 0, none⟩) 1 1) w8.heap.size rfl
                 have hRZ : RdA B r S ts (j + 1) c WZ := by rw [hWZ]; exact (HRD8.out.put (by omega) _ _ _ _).below ((Below.refl _ _).alloc (Nat.le_refl _) _)
                 have hatz := hRZ.at
                 have h0 : WZ.heap[w.heap.size]? = some (.cells #[.int .i64 0, .int .i64 0, .string ⟨#[]⟩, .slice none 0 0] 24) := by rw [hWZ]; exact lit_on ((put4_other (by omega) _ _ _ _).trans HRW0.out) _
                 have h1 : WZ.heap[w.heap.size + 1]? = some (.cells #[.int .i64 2, .int .i64 0, .string (wordF S (hereT ts j).a (hereT ts j).b), .slice (some ⟨w8.heap.size, 0, none⟩) 1 1] 24) := by rw [hWZ]; exact lit_on (put4_blk HRW1.out _ _ _ _) _
                 have hgz : w.grownBy WZ (some r) := by rw [hWZ]; exact (grow_put HG8.out (by omega) _ _ _ _).trans (World.grownBy_alloc _ _ _)
                 rw [← hWZ] at hone
                 unfold put4 at hWZ
                 rw [← hWZ]
                 refine ⟨⟨.mk 2 0 (wordT S ts j) [u], j + 1, some ⟨w8.heap.size, 0, none⟩, 1, HNT.out.snoc (by rw [← HQ.out]; exact HK1.out), by have := HIJ.out; exact Nat.le_succ_of_le this, hRZ, h0, h1, hone, hgz⟩, ?_⟩
                 rw [hatz, hat]
                 omega)
              | (obtain ⟨WZ, hWZ⟩ : ∃ WZ, WZ = put4 w8 (w.heap.size + 1) (.int .i64 2) (.int .i64 0) (.string (wordF S (hereT ts j).a (hereT ts j).b)) (.slice (some ⟨w7.heap.size, 0, none⟩) 1 1) := ⟨_, rfl⟩
                 have hRZ : RdA B r S ts (j + 1) c WZ := by rw [hWZ]; exact HRD8.out.put (by omega) _ _ _ _
                 have hatz := hRZ.at
                 have h0 : WZ.heap[w.heap.size]? = some (.cells #[.int .i64 0, .int .i64 0, .string ⟨#[]⟩, .slice none 0 0] 24) := by rw [hWZ]; exact (put4_other (by omega) _ _ _ _).trans HRW0.out
                 have h1 : WZ.heap[w.heap.size + 1]? = some (.cells #[.int .i64 2, .int .i64 0, .string (wordF S (hereT ts j).a (hereT ts j).b), .slice (some ⟨w7.heap.size, 0, none⟩) 1 1] 24) := by rw [hWZ]; exact put4_blk HRW1.out _ _ _ _
                 have hgz : w.grownBy WZ (some r) := by rw [hWZ]; exact grow_put HG8.out (by omega) _ _ _ _
                 have hone : IsA WZ (New (w.heap.size + 2) WZ) [u] (.slice (some ⟨w7.heap.size, 0, none⟩) 1 1) := by rw [hWZ]; exact new_put HONE.out (by omega) (Nat.le_refl _) _ _ _ _
                 unfold put4 at hWZ
                 rw [← hWZ]
                 refine ⟨⟨.mk 2 0 (wordT S ts j) [u], j + 1, some ⟨w7.heap.size, 0, none⟩, 1, HNT.out.snoc (by rw [← HQ.out]; exact HK1.out), by have := HIJ.out; exact Nat.le_succ_of_le this, hRZ, h0, h1, hone, hgz⟩, ?_⟩
                 rw [hatz, hat]
                 omega)
        · have hk2 : ((q.kind : Int) == 1) = false := by simp; omega
          have hk3 : ¬ (q.kind : Int) = 1 := by omega
          have HK1 := Lib.hid hk1
          clear hk1
          go_wp2_with fail
          refine HHR.out.mono ?_
          rintro e w7 ⟨rfl, hb7⟩
          have hrow0 := (hb7.block w.heap.size (by omega)).trans HB0.out
          have hrow1 := (hb7.block (w.heap.size + 1) hwz).trans HB1.out
          obtain ⟨⟨r0, r1, r2, r3⟩, fr0, fr1, fr2, fr3⟩ := row4 hrow0
          obtain ⟨⟨y0, y1, y2, y3⟩, -⟩ := row4 hrow1
          have HR0 := Lib.hid hrow0
          have hs7 := hb7.size
          have HRD7 := Lib.hid (HRD.out.below hb7)
          have HIA7 := Lib.hid (HIA.out.newer hb7 (Nat.le_refl _))
          have HG7 := Lib.hid (HG.out.trans (grown_of hb7 r))
          have hz7 : w.heap.size + 1 < w7.heap.size := by omega
          have hz8 : w.heap.size < w7.heap.size := by omega
          clear hrow0 hrow1 hb7
          go_wp2_with fail
          refine bodyPost_ret (v := .agg #[.int .i64 u.kind, .int .i64 u.num, .string u.name, .slice As u.args.length cs]) (results_cell_row rfl _ _ w.heap.size 24 #[.int .i64 u.kind, .int .i64 u.num, .string u.name, .slice As u.args.length cs] (0, 0) _ rfl (put4_blk HR0.out _ _ _ _) Tryz.underlying24 rfl infoTy4) rfl ?_
          exact ⟨u, j, c, As, cs, ⟨t0, i0, HHd.out, HNT.out, by rw [← HQ.out]; exact HK1.out⟩, rfl, new_put HIA7.out (by omega) (by omega) _ _ _ _, HIJ.out, rd_put HRD7.out HG7.out hr _ (Nat.le_refl _) _ _ _ _⟩
    | some n =>
      rw [hvn] at HVC
      simp only at HVC
      go_wp2_with fail
      refine HVC.out.mono ?_
      rintro e w2 ⟨rfl, hrd2, hg2⟩
      have hsz2 := hg2.size
      have hsz1 := HMs.out
      have hrow0 := (hg2.block w.heap.size (by omega) (fun e => by cases e; omega)).trans ((HB1.out.block _ (by omega)).trans HBK.out)
      have hrow1 := (hg2.block (w.heap.size + 1) (by omega) (fun e => by cases e; omega)).trans ((HB1.out.block _ (by omega)).trans HBT.out)
      obtain ⟨⟨r0, r1, r2, r3⟩, fr0, fr1, fr2, fr3⟩ := row4 hrow1
      have hwg : w.grownBy w2 (some r) := (grown_of HMB.out r).trans ((grown_of HB1.out r).trans hg2)
      go_wp2_with fail
      obtain ⟨WF, hWF⟩ : ∃ WF, WF = put4 w2 (w.heap.size + 1) (.int .i64 1) (.int .i64 n) (.string ⟨#[]⟩) (.slice none 0 0) := ⟨_, rfl⟩
      have HHA := Lib.hid (show HeadAt B r S ts k i b w WF by
        rw [hWF]
        exact head_at (t0 := .mk 1 n ⟨#[]⟩ []) ((HHD.out _ _ _).2 (by rw [hvn]; exact ⟨rfl, rfl, rfl⟩)) (by omega) hrd2 hr hrow0 hrow1 (IsA.nil _ _ _ _) hwg)
      unfold put4 at hWF
      rw [← hWF]
      clear hWF hrow0 hrow1 hwg hrd2 hg2 r0 r1 r2 r3 fr0 fr1 fr2 fr3
      clear HVC HV HHD
      obtain ⟨t0, i0, c, A0, c0, hhd, hi0, hrdF, hb0, hb1, hA0, hgF⟩ := HHA.out
      have HHd := Lib.hid hhd
      have HF1 := Lib.hid hrdF
      have HF2 := Lib.hid hb0
      have HF3 := Lib.hid hb1
      have HF4 := Lib.hid hA0
      have HF5 := Lib.hid hgF
      clear hhd hrdF hb0 hb1 hA0 hgF HHA
      go_loopw [] (fun wr => ∃ (u : Ty) (j : Nat) (As : Option Addr) (cs : Nat), RowKit.Hid (NamesTo S ts t0 i0 u j) ∧ RowKit.Hid (i ≤ j) ∧ RowKit.Hid (RdA B r S ts j c wr) ∧ RowKit.Hid (wr.heap[w.heap.size]? = some (.cells #[.int .i64 0, .int .i64 0, .string ⟨#[]⟩, .slice none 0 0] 24)) ∧ RowKit.Hid (wr.heap[w.heap.size + 1]? = some (.cells #[.int .i64 u.kind, .int .i64 u.num, .string u.name, .slice As u.args.length cs] 24)) ∧ RowKit.Hid (IsA wr (New (w.heap.size + 2) wr) u.args (.slice As u.args.length cs)) ∧ RowKit.Hid (w.grownBy wr (some r))) (fun wr => ts.length - atOf r wr)
      case atStart => exact ⟨t0, i0, A0, c0, .nil _ _, hi0, HF1.out, HF2.out, HF3.out, HF4.out, HF5.out⟩
      case round =>
        obtain ⟨u, j, As, cs, HNT, HIJ, HRD, HB0, HB1, HIA, HG⟩ := hrel
        have hat := HRD.out.at
        have hwz : w.heap.size + 1 < wr.heap.size := (Array.getElem?_eq_some_iff.1 HB1.out).1
        obtain ⟨q, hq⟩ : ∃ q, q = hereT ts j := ⟨_, rfl⟩
        have HQ := Lib.hid hq
        have HHR := Lib.hid (here_any HRD.out HNs.out)
        rw [← hq] at HHR
        clear hq
        by_cases hk1 : q.kind = 1
        · have hwd := (fun W (hR : RdA B r S ts j c W) => word_yes 1 hR HNs.out (by have := HSs.out; omega) (by rw [← HQ.out]; exact hk1) (by omega))
          rw [hk1] at HHR
          have hlt : j < ts.length := here_lt (by rw [← HQ.out, hk1]; decide)
          have HK1 := Lib.hid hk1
          clear hk1
          go_wp2_with fail
          refine HHR.out.mono ?_
          rintro e w7 ⟨rfl, hb7⟩
          have hrow0 := (hb7.block w.heap.size (by omega)).trans HB0.out
          have hrow1 := (hb7.block (w.heap.size + 1) hwz).trans HB1.out
          obtain ⟨⟨y0, y1, y2, y3⟩, fy0, fy1, fy2, fy3⟩ := row4 hrow1
          have HR0 := Lib.hid hrow0
          have HR1 := Lib.hid hrow1
          have hs7 := hb7.size
          have HRD7 := Lib.hid (HRD.out.below hb7)
          have HIA7 := Lib.hid (HIA.out.newer hb7 (Nat.le_refl _))
          have HG7 := Lib.hid (HG.out.trans (grown_of hb7 r))
          have hz7 : w.heap.size + 1 < w7.heap.size := by omega
          have HWD := Lib.hid (fun W (hb : Below w7.heap.size w7 W) => hwd W (HRD7.out.below hb))
          clear hrow0 hrow1 hb7 HHR hwd
          go_wp2_with fail
          go_region_law (first
            | (rw [if_pos (by simp [Region.wanted])]
               go_simp
               go_at_call 60
               first
                 | (refine (HWD.out _ (drew1 _)).mono ?_
                    rintro e w8 ⟨rfl, hrd8, hg8⟩
                    have hrow1 := (hg8.block (w.heap.size + 1) hz7 (fun e => by cases e; omega)).trans HR1.out
                    obtain ⟨⟨y0, y1, y2, y3⟩, fy0, fy1, fy2, fy3⟩ := row4 hrow1
                    have HG8 := Lib.hid ((HG7.out.trans (grown_of (drew1 w7) r)).trans hg8)
                    have HRW0 := Lib.hid ((hg8.block w.heap.size (Nat.lt_of_succ_lt hz7) (fun e => by cases e; omega)).trans HR0.out)
                    have HRW1 := Lib.hid hrow1
                    have HRD8 := Lib.hid hrd8
                    have HIAX := Lib.hid (show IsA w8 (New (w.heap.size + 2) w8) u.args (.slice As u.args.length cs) from (HIA7.out.same fun g h => hg8.block g h.2 (fun e => by cases e; have := h.1; omega)).weak fun g h => ⟨h.1, Nat.lt_of_lt_of_le h.2 hg8.size⟩)
                    have hz8 : w.heap.size + 1 < w8.heap.size := Nat.lt_of_lt_of_le hz7 hg8.size
                    have HONE := Lib.hid True.intro)
                 | (refine (HWD.out _ (drew2 _ _)).mono ?_
                    rintro e w8 ⟨rfl, hrd8, hg8⟩
                    have hrow1 := (hg8.block (w.heap.size + 1) (by simp; omega) (fun e => by cases e; omega)).trans (lit_d (lit_on HR1.out _))
                    obtain ⟨⟨y0, y1, y2, y3⟩, fy0, fy1, fy2, fy3⟩ := row4 hrow1
                    have HG8 := Lib.hid ((HG7.out.trans (grown_of (drew2 w7 _) r)).trans hg8)
                    have HRW0 := Lib.hid ((hg8.block w.heap.size (by simp; omega) (fun e => by cases e; omega)).trans (lit_d (lit_on HR0.out _)))
                    have HRW1 := Lib.hid hrow1
                    have HRD8 := Lib.hid hrd8
                    have HIAX := Lib.hid True.intro
                    have hz8 : w.heap.size + 1 < w8.heap.size := Nat.lt_of_lt_of_le (by simp; omega) hg8.size
                    have HONE := Lib.hid (one_kept HIA7.out (by omega) (by omega) hg8))))
          all_goals
            go_wp2_with fail
            first
              | (obtain ⟨WZ, hWZ⟩ : ∃ WZ, WZ = (put4 w8 (w.heap.size + 1) (.int .i64 2) (.int .i64 0) (.string (wordF S (hereT ts j).a (hereT ts j).b)) (.slice (some ⟨w8.heap.size, 0, none⟩) 1 1)).alloc (.cells #[.int .i64 u.kind, .int .i64 u.num, .string u.name, .slice As u.args.length cs] 24) := ⟨_, rfl⟩
                 have hone := one_new (g := w.heap.size + 1) HIAX.out (by omega) (by omega) (.int .i64 2) (.int .i64 0) (.string (wordF S (hereT ts j).a (hereT ts j).b)) (.slice (some ⟨w8.heap.size, 0, none⟩) 1 1) w8.heap.size rfl
                 have hRZ : RdA B r S ts (j + 1) c WZ := by rw [hWZ]; exact (HRD8.out.put (by omega) _ _ _ _).below ((Below.refl _ _).alloc (Nat.le_refl _) _)
                 have hatz := hRZ.at
                 have h0 : WZ.heap[w.heap.size]? = some (.cells #[.int .i64 0, .int .i64 0, .string ⟨#[]⟩, .slice none 0 0] 24) := by rw [hWZ]; exact lit_on ((put4_other (by omega) _ _ _ _).trans HRW0.out) _
                 have h1 : WZ.heap[w.heap.size + 1]? = some (.cells #[.int .i64 2, .int .i64 0, .string (wordF S (hereT ts j).a (hereT ts j).b), .slice (some ⟨w8.heap.size, 0, none⟩) 1 1] 24) := by rw [hWZ]; exact lit_on (put4_blk HRW1.out _ _ _ _) _
                 have hgz : w.grownBy WZ (some r) := by rw [hWZ]; exact (grow_put HG8.out (by omega) _ _ _ _).trans (World.grownBy_alloc _ _ _)
                 rw [← hWZ] at hone
                 unfold put4 at hWZ
                 rw [← hWZ]
                 refine ⟨⟨.mk 2 0 (wordT S ts j) [u], j + 1, some ⟨w8.heap.size, 0, none⟩, 1, HNT.out.snoc (by rw [← HQ.out]; exact HK1.out), by have := HIJ.out; exact Nat.le_succ_of_le this, hRZ, h0, h1, hone, hgz⟩, ?_⟩
                 rw [hatz, hat]
                 omega)
              | (obtain ⟨WZ, hWZ⟩ : ∃ WZ, WZ = put4 w8 (w.heap.size + 1) (.int .i64 2) (.int .i64 0) (.string (wordF S (hereT ts j).a (hereT ts j).b)) (.slice (some ⟨w7.heap.size, 0, none⟩) 1 1) := ⟨_, rfl⟩
                 have hRZ : RdA B r S ts (j + 1) c WZ := by rw [hWZ]; exact HRD8.out.put (by omega) _ _ _ _
                 have hatz := hRZ.at
                 have h0 : WZ.heap[w.heap.size]? = some (.cells #[.int .i64 0, .int .i64 0, .string ⟨#[]⟩, .slice none 0 0] 24) := by rw [hWZ]; exact (put4_other (by omega) _ _ _ _).trans HRW0.out
                 have h1 : WZ.heap[w.heap.size + 1]? = some (.cells #[.int .i64 2, .int .i64 0, .string (wordF S (hereT ts j).a (hereT ts j).b), .slice (some ⟨w7.heap.size, 0, none⟩) 1 1] 24) := by rw [hWZ]; exact put4_blk HRW1.out _ _ _ _
                 have hgz : w.grownBy WZ (some r) := by rw [hWZ]; exact grow_put HG8.out (by omega) _ _ _ _
                 have hone : IsA WZ (New (w.heap.size + 2) WZ) [u] (.slice (some ⟨w7.heap.size, 0, none⟩) 1 1) := by rw [hWZ]; exact new_put HONE.out (by omega) (Nat.le_refl _) _ _ _ _
                 unfold put4 at hWZ
                 rw [← hWZ]
                 refine ⟨⟨.mk 2 0 (wordT S ts j) [u], j + 1, some ⟨w7.heap.size, 0, none⟩, 1, HNT.out.snoc (by rw [← HQ.out]; exact HK1.out), by have := HIJ.out; exact Nat.le_succ_of_le this, hRZ, h0, h1, hone, hgz⟩, ?_⟩
                 rw [hatz, hat]
                 omega)
        · have hk2 : ((q.kind : Int) == 1) = false := by simp; omega
          have hk3 : ¬ (q.kind : Int) = 1 := by omega
          have HK1 := Lib.hid hk1
          clear hk1
          go_wp2_with fail
          refine HHR.out.mono ?_
          rintro e w7 ⟨rfl, hb7⟩
          have hrow0 := (hb7.block w.heap.size (by omega)).trans HB0.out
          have hrow1 := (hb7.block (w.heap.size + 1) hwz).trans HB1.out
          obtain ⟨⟨r0, r1, r2, r3⟩, fr0, fr1, fr2, fr3⟩ := row4 hrow0
          obtain ⟨⟨y0, y1, y2, y3⟩, -⟩ := row4 hrow1
          have HR0 := Lib.hid hrow0
          have hs7 := hb7.size
          have HRD7 := Lib.hid (HRD.out.below hb7)
          have HIA7 := Lib.hid (HIA.out.newer hb7 (Nat.le_refl _))
          have HG7 := Lib.hid (HG.out.trans (grown_of hb7 r))
          have hz7 : w.heap.size + 1 < w7.heap.size := by omega
          have hz8 : w.heap.size < w7.heap.size := by omega
          clear hrow0 hrow1 hb7
          go_wp2_with fail
          refine bodyPost_ret (v := .agg #[.int .i64 u.kind, .int .i64 u.num, .string u.name, .slice As u.args.length cs]) (results_cell_row rfl _ _ w.heap.size 24 #[.int .i64 u.kind, .int .i64 u.num, .string u.name, .slice As u.args.length cs] (0, 0) _ rfl (put4_blk HR0.out _ _ _ _) Tryz.underlying24 rfl infoTy4) rfl ?_
          exact ⟨u, j, c, As, cs, ⟨t0, i0, HHd.out, HNT.out, by rw [← HQ.out]; exact HK1.out⟩, rfl, new_put HIA7.out (by omega) (by omega) _ _ _ _, HIJ.out, rd_put HRD7.out HG7.out hr _ (Nat.le_refl _) _ _ _ _⟩
  · have HH2 := Lib.hid (fun W (hb : Below M.heap.size M W) => here_any (HRM.out.below hb) HNs.out)
    have hk4 : ((t.kind : Int) == 4) = false := by rw [ht]; simp; omega
    have hk4b : ¬ (t.kind : Int) = 4 := by rw [ht]; omega
    rw [← ht] at HH2
    by_cases h1 : (hereT ts i).kind = 1
    · have HWD := Lib.hid (fun W (hR : RdA B r S ts i b W) => word_yes 1 hR HNs.out (by have := HSs.out; omega) h1 (by omega))
      have hhd : HeadR (WholeR S ts k) S ts i b (.mk 2 0 (wordT S ts i) []) (i + 1) b := by unfold HeadR; rw [if_neg h4, if_pos h1]; exact ⟨rfl, rfl, rfl⟩
      have HHD := Lib.hid hhd
      rw [← ht] at h1
      rw [h1] at HH2
      have hkd := run_kind
      clear hhd ht h4 hk4 hk4b HH
      go_enter Tryz.func43, Tryz.ntmps43
      go_wp2_with fail
      rw [← HM.out]
      refine (HH2.out M (Below.refl _ _)).mono ?_
      rintro e w0 ⟨rfl, hb0⟩
      have HB0 := Lib.hid hb0
      go_wp2_with fail
      refine (HH2.out w0 HB0.out).mono ?_
      rintro e w1 ⟨rfl, hb1⟩
      have hbb := HB0.out.trans (hb1.mono HB0.out.size)
      have HGB := Lib.hid (grown_of hbb r)
      have HWC := Lib.hid (HWD.out w1 (HRM.out.below hbb))
      clear hb0 hb1 hbb
      go_wp2_with fail
      refine HWC.out.mono ?_
      rintro e w2 ⟨rfl, hrd2, hg2⟩
      have hsz2 := hg2.size
      have hsz1 := HMs.out
      have hsb := HGB.out.size
      have hrow0 := (hg2.block w.heap.size (by omega) (fun e => by cases e; omega)).trans ((HGB.out.block _ (by omega) (fun e => by cases e; omega)).trans HBK.out)
      have hrow1 := (hg2.block (w.heap.size + 1) (by omega) (fun e => by cases e; omega)).trans ((HGB.out.block _ (by omega) (fun e => by cases e; omega)).trans HBT.out)
      obtain ⟨⟨r0, r1, r2, r3⟩, fr0, fr1, fr2, fr3⟩ := row4 hrow1
      have hwg : w.grownBy w2 (some r) := (grown_of HMB.out r).trans (HGB.out.trans hg2)
      go_wp2_with fail
      obtain ⟨WF, hWF⟩ : ∃ WF, WF = put4 w2 (w.heap.size + 1) (.int .i64 2) (.int .i64 0) (.string (wordF S (hereT ts i).a (hereT ts i).b)) (.slice none 0 0) := ⟨_, rfl⟩
      have HHA := Lib.hid (show HeadAt B r S ts k i b w WF by
        rw [hWF]
        exact head_at (t0 := .mk 2 0 (wordT S ts i) []) HHD.out (by omega) hrd2 hr hrow0 hrow1 (IsA.nil _ _ _ _) hwg)
      unfold put4 at hWF
      rw [← hWF]
      clear hWF hrow0 hrow1 hwg hrd2 hg2 r0 r1 r2 r3 fr0 fr1 fr2 fr3
      clear HWC HWD HH2 HHD
      obtain ⟨t0, i0, c, A0, c0, hhd, hi0, hrdF, hb0, hb1, hA0, hgF⟩ := HHA.out
      have HHd := Lib.hid hhd
      have HF1 := Lib.hid hrdF
      have HF2 := Lib.hid hb0
      have HF3 := Lib.hid hb1
      have HF4 := Lib.hid hA0
      have HF5 := Lib.hid hgF
      clear hhd hrdF hb0 hb1 hA0 hgF HHA
      go_loopw [] (fun wr => ∃ (u : Ty) (j : Nat) (As : Option Addr) (cs : Nat), RowKit.Hid (NamesTo S ts t0 i0 u j) ∧ RowKit.Hid (i ≤ j) ∧ RowKit.Hid (RdA B r S ts j c wr) ∧ RowKit.Hid (wr.heap[w.heap.size]? = some (.cells #[.int .i64 0, .int .i64 0, .string ⟨#[]⟩, .slice none 0 0] 24)) ∧ RowKit.Hid (wr.heap[w.heap.size + 1]? = some (.cells #[.int .i64 u.kind, .int .i64 u.num, .string u.name, .slice As u.args.length cs] 24)) ∧ RowKit.Hid (IsA wr (New (w.heap.size + 2) wr) u.args (.slice As u.args.length cs)) ∧ RowKit.Hid (w.grownBy wr (some r))) (fun wr => ts.length - atOf r wr)
      case atStart => exact ⟨t0, i0, A0, c0, .nil _ _, hi0, HF1.out, HF2.out, HF3.out, HF4.out, HF5.out⟩
      case round =>
        obtain ⟨u, j, As, cs, HNT, HIJ, HRD, HB0, HB1, HIA, HG⟩ := hrel
        have hat := HRD.out.at
        have hwz : w.heap.size + 1 < wr.heap.size := (Array.getElem?_eq_some_iff.1 HB1.out).1
        obtain ⟨q, hq⟩ : ∃ q, q = hereT ts j := ⟨_, rfl⟩
        have HQ := Lib.hid hq
        have HHR := Lib.hid (here_any HRD.out HNs.out)
        rw [← hq] at HHR
        clear hq
        by_cases hk1 : q.kind = 1
        · have hwd := (fun W (hR : RdA B r S ts j c W) => word_yes 1 hR HNs.out (by have := HSs.out; omega) (by rw [← HQ.out]; exact hk1) (by omega))
          rw [hk1] at HHR
          have hlt : j < ts.length := here_lt (by rw [← HQ.out, hk1]; decide)
          have HK1 := Lib.hid hk1
          clear hk1
          go_wp2_with fail
          refine HHR.out.mono ?_
          rintro e w7 ⟨rfl, hb7⟩
          have hrow0 := (hb7.block w.heap.size (by omega)).trans HB0.out
          have hrow1 := (hb7.block (w.heap.size + 1) hwz).trans HB1.out
          obtain ⟨⟨y0, y1, y2, y3⟩, fy0, fy1, fy2, fy3⟩ := row4 hrow1
          have HR0 := Lib.hid hrow0
          have HR1 := Lib.hid hrow1
          have hs7 := hb7.size
          have HRD7 := Lib.hid (HRD.out.below hb7)
          have HIA7 := Lib.hid (HIA.out.newer hb7 (Nat.le_refl _))
          have HG7 := Lib.hid (HG.out.trans (grown_of hb7 r))
          have hz7 : w.heap.size + 1 < w7.heap.size := by omega
          have HWD := Lib.hid (fun W (hb : Below w7.heap.size w7 W) => hwd W (HRD7.out.below hb))
          clear hrow0 hrow1 hb7 HHR hwd
          go_wp2_with fail
          go_region_law (first
            | (rw [if_pos (by simp [Region.wanted])]
               go_simp
               go_at_call 60
               first
                 | (refine (HWD.out _ (drew1 _)).mono ?_
                    rintro e w8 ⟨rfl, hrd8, hg8⟩
                    have hrow1 := (hg8.block (w.heap.size + 1) hz7 (fun e => by cases e; omega)).trans HR1.out
                    obtain ⟨⟨y0, y1, y2, y3⟩, fy0, fy1, fy2, fy3⟩ := row4 hrow1
                    have HG8 := Lib.hid ((HG7.out.trans (grown_of (drew1 w7) r)).trans hg8)
                    have HRW0 := Lib.hid ((hg8.block w.heap.size (Nat.lt_of_succ_lt hz7) (fun e => by cases e; omega)).trans HR0.out)
                    have HRW1 := Lib.hid hrow1
                    have HRD8 := Lib.hid hrd8
                    have HIAX := Lib.hid (show IsA w8 (New (w.heap.size + 2) w8) u.args (.slice As u.args.length cs) from (HIA7.out.same fun g h => hg8.block g h.2 (fun e => by cases e; have := h.1; omega)).weak fun g h => ⟨h.1, Nat.lt_of_lt_of_le h.2 hg8.size⟩)
                    have hz8 : w.heap.size + 1 < w8.heap.size := Nat.lt_of_lt_of_le hz7 hg8.size
                    have HONE := Lib.hid True.intro)
                 | (refine (HWD.out _ (drew2 _ _)).mono ?_
                    rintro e w8 ⟨rfl, hrd8, hg8⟩
                    have hrow1 := (hg8.block (w.heap.size + 1) (by simp; omega) (fun e => by cases e; omega)).trans (lit_d (lit_on HR1.out _))
                    obtain ⟨⟨y0, y1, y2, y3⟩, fy0, fy1, fy2, fy3⟩ := row4 hrow1
                    have HG8 := Lib.hid ((HG7.out.trans (grown_of (drew2 w7 _) r)).trans hg8)
                    have HRW0 := Lib.hid ((hg8.block w.heap.size (by simp; omega) (fun e => by cases e; omega)).trans (lit_d (lit_on HR0.out _)))
                    have HRW1 := Lib.hid hrow1
                    have HRD8 := Lib.hid hrd8
                    have HIAX := Lib.hid True.intro
                    have hz8 : w.heap.size + 1 < w8.heap.size := Nat.lt_of_lt_of_le (by simp; omega) hg8.size
                    have HONE := Lib.hid (one_kept HIA7.out (by omega) (by omega) hg8))))
          all_goals
            go_wp2_with fail
            first
              | (obtain ⟨WZ, hWZ⟩ : ∃ WZ, WZ = (put4 w8 (w.heap.size + 1) (.int .i64 2) (.int .i64 0) (.string (wordF S (hereT ts j).a (hereT ts j).b)) (.slice (some ⟨w8.heap.size, 0, none⟩) 1 1)).alloc (.cells #[.int .i64 u.kind, .int .i64 u.num, .string u.name, .slice As u.args.length cs] 24) := ⟨_, rfl⟩
                 have hone := one_new (g := w.heap.size + 1) HIAX.out (by omega) (by omega) (.int .i64 2) (.int .i64 0) (.string (wordF S (hereT ts j).a (hereT ts j).b)) (.slice (some ⟨w8.heap.size, 0, none⟩) 1 1) w8.heap.size rfl
                 have hRZ : RdA B r S ts (j + 1) c WZ := by rw [hWZ]; exact (HRD8.out.put (by omega) _ _ _ _).below ((Below.refl _ _).alloc (Nat.le_refl _) _)
                 have hatz := hRZ.at
                 have h0 : WZ.heap[w.heap.size]? = some (.cells #[.int .i64 0, .int .i64 0, .string ⟨#[]⟩, .slice none 0 0] 24) := by rw [hWZ]; exact lit_on ((put4_other (by omega) _ _ _ _).trans HRW0.out) _
                 have h1 : WZ.heap[w.heap.size + 1]? = some (.cells #[.int .i64 2, .int .i64 0, .string (wordF S (hereT ts j).a (hereT ts j).b), .slice (some ⟨w8.heap.size, 0, none⟩) 1 1] 24) := by rw [hWZ]; exact lit_on (put4_blk HRW1.out _ _ _ _) _
                 have hgz : w.grownBy WZ (some r) := by rw [hWZ]; exact (grow_put HG8.out (by omega) _ _ _ _).trans (World.grownBy_alloc _ _ _)
                 rw [← hWZ] at hone
                 unfold put4 at hWZ
                 rw [← hWZ]
                 refine ⟨⟨.mk 2 0 (wordT S ts j) [u], j + 1, some ⟨w8.heap.size, 0, none⟩, 1, HNT.out.snoc (by rw [← HQ.out]; exact HK1.out), by have := HIJ.out; exact Nat.le_succ_of_le this, hRZ, h0, h1, hone, hgz⟩, ?_⟩
                 rw [hatz, hat]
                 omega)
              | (obtain ⟨WZ, hWZ⟩ : ∃ WZ, WZ = put4 w8 (w.heap.size + 1) (.int .i64 2) (.int .i64 0) (.string (wordF S (hereT ts j).a (hereT ts j).b)) (.slice (some ⟨w7.heap.size, 0, none⟩) 1 1) := ⟨_, rfl⟩
                 have hRZ : RdA B r S ts (j + 1) c WZ := by rw [hWZ]; exact HRD8.out.put (by omega) _ _ _ _
                 have hatz := hRZ.at
                 have h0 : WZ.heap[w.heap.size]? = some (.cells #[.int .i64 0, .int .i64 0, .string ⟨#[]⟩, .slice none 0 0] 24) := by rw [hWZ]; exact (put4_other (by omega) _ _ _ _).trans HRW0.out
                 have h1 : WZ.heap[w.heap.size + 1]? = some (.cells #[.int .i64 2, .int .i64 0, .string (wordF S (hereT ts j).a (hereT ts j).b), .slice (some ⟨w7.heap.size, 0, none⟩) 1 1] 24) := by rw [hWZ]; exact put4_blk HRW1.out _ _ _ _
                 have hgz : w.grownBy WZ (some r) := by rw [hWZ]; exact grow_put HG8.out (by omega) _ _ _ _
                 have hone : IsA WZ (New (w.heap.size + 2) WZ) [u] (.slice (some ⟨w7.heap.size, 0, none⟩) 1 1) := by rw [hWZ]; exact new_put HONE.out (by omega) (Nat.le_refl _) _ _ _ _
                 unfold put4 at hWZ
                 rw [← hWZ]
                 refine ⟨⟨.mk 2 0 (wordT S ts j) [u], j + 1, some ⟨w7.heap.size, 0, none⟩, 1, HNT.out.snoc (by rw [← HQ.out]; exact HK1.out), by have := HIJ.out; exact Nat.le_succ_of_le this, hRZ, h0, h1, hone, hgz⟩, ?_⟩
                 rw [hatz, hat]
                 omega)
        · have hk2 : ((q.kind : Int) == 1) = false := by simp; omega
          have hk3 : ¬ (q.kind : Int) = 1 := by omega
          have HK1 := Lib.hid hk1
          clear hk1
          go_wp2_with fail
          refine HHR.out.mono ?_
          rintro e w7 ⟨rfl, hb7⟩
          have hrow0 := (hb7.block w.heap.size (by omega)).trans HB0.out
          have hrow1 := (hb7.block (w.heap.size + 1) hwz).trans HB1.out
          obtain ⟨⟨r0, r1, r2, r3⟩, fr0, fr1, fr2, fr3⟩ := row4 hrow0
          obtain ⟨⟨y0, y1, y2, y3⟩, -⟩ := row4 hrow1
          have HR0 := Lib.hid hrow0
          have hs7 := hb7.size
          have HRD7 := Lib.hid (HRD.out.below hb7)
          have HIA7 := Lib.hid (HIA.out.newer hb7 (Nat.le_refl _))
          have HG7 := Lib.hid (HG.out.trans (grown_of hb7 r))
          have hz7 : w.heap.size + 1 < w7.heap.size := by omega
          have hz8 : w.heap.size < w7.heap.size := by omega
          clear hrow0 hrow1 hb7
          go_wp2_with fail
          refine bodyPost_ret (v := .agg #[.int .i64 u.kind, .int .i64 u.num, .string u.name, .slice As u.args.length cs]) (results_cell_row rfl _ _ w.heap.size 24 #[.int .i64 u.kind, .int .i64 u.num, .string u.name, .slice As u.args.length cs] (0, 0) _ rfl (put4_blk HR0.out _ _ _ _) Tryz.underlying24 rfl infoTy4) rfl ?_
          exact ⟨u, j, c, As, cs, ⟨t0, i0, HHd.out, HNT.out, by rw [← HQ.out]; exact HK1.out⟩, rfl, new_put HIA7.out (by omega) (by omega) _ _ _ _, HIJ.out, rd_put HRD7.out HG7.out hr _ (Nat.le_refl _) _ _ _ _⟩
    · have hk1 : ((t.kind : Int) == 1) = false := by rw [ht]; simp; omega
      have hk1b : ¬ (t.kind : Int) = 1 := by rw [ht]; omega
      have hkd := run_kind
      cases hz : isT S ⟨#[40]⟩ (hereT ts i)
      · have hhd : HeadR (WholeR S ts k) S ts i b zeroT i true := by unfold HeadR; rw [if_neg h4, if_neg h1, hz]; exact ⟨rfl, rfl, rfl⟩
        have HHD := Lib.hid hhd
        have HTK := Lib.hid (fun W (hR : RdA B r S ts i b W) => take_no hz hR HNs.out HSs.out)
        clear hhd ht h4 h1 hz HH
        go_enter Tryz.func43, Tryz.ntmps43
        go_wp2_with fail
        rw [← HM.out]
        refine (HH2.out M (Below.refl _ _)).mono ?_
        rintro e w0 ⟨rfl, hb0⟩
        have HB0 := Lib.hid hb0
        go_wp2_with fail
        refine (HH2.out w0 HB0.out).mono ?_
        rintro e w1 ⟨rfl, hb1⟩
        have hbb := HB0.out.trans (hb1.mono HB0.out.size)
        have HGB := Lib.hid (grown_of hbb r)
        have HTC := Lib.hid (HTK.out w1 (HRM.out.below hbb))
        clear hb0 hb1 hbb
        go_wp2_with fail
        refine HTC.out.mono ?_
        rintro e w2 ⟨rfl, hrd2, hg2⟩
        have hsz2 := hg2.size
        have hsz1 := HMs.out
        have hsb := HGB.out.size
        have hrow0 := (hg2.block w.heap.size (by omega) (fun e => by cases e; omega)).trans ((HGB.out.block _ (by omega) (fun e => by cases e; omega)).trans HBK.out)
        have hrow1 := (hg2.block (w.heap.size + 1) (by omega) (fun e => by cases e; omega)).trans ((HGB.out.block _ (by omega) (fun e => by cases e; omega)).trans HBT.out)
        obtain ⟨A6, c6, hk6, -⟩ := id hrd2
        obtain ⟨⟨q0, q1, q2, q3⟩, f0, f1, f2, f3⟩ := row4 hk6
        have hr2 := hrd2.lt
        have hwg : w.grownBy w2 (some r) := (grown_of HMB.out r).trans (HGB.out.trans hg2)
        go_wp2_with fail
        obtain ⟨WF, hWF⟩ : ∃ WF, WF = w2.setCell ⟨r, 3, none⟩ (.bool true) := ⟨_, rfl⟩
        have HHA := Lib.hid (show HeadAt B r S ts k i b w WF by
          rw [hWF]
          exact ⟨zeroT, i, true, none, 0, HHD.out, Nat.le_refl _, hrd2.wrong true, blk_other (a := ⟨r, 3, none⟩) hrow0 (by show _ ≠ r; omega), blk_other (a := ⟨r, 3, none⟩) hrow1 (by show _ ≠ r; omega), IsA.nil _ _ _ _, hwg.trans (grownBy_set _)⟩)
        rw [← hWF]
        clear hWF hrow0 hrow1 hwg hrd2 hg2 q0 q1 q2 q3 f0 f1 f2 f3 hk6 HTC HTK HH2 HHD
        obtain ⟨t0, i0, c, A0, c0, hhd, hi0, hrdF, hb0, hb1, hA0, hgF⟩ := HHA.out
        have HHd := Lib.hid hhd
        have HF1 := Lib.hid hrdF
        have HF2 := Lib.hid hb0
        have HF3 := Lib.hid hb1
        have HF4 := Lib.hid hA0
        have HF5 := Lib.hid hgF
        clear hhd hrdF hb0 hb1 hA0 hgF HHA
        go_loopw [] (fun wr => ∃ (u : Ty) (j : Nat) (As : Option Addr) (cs : Nat), RowKit.Hid (NamesTo S ts t0 i0 u j) ∧ RowKit.Hid (i ≤ j) ∧ RowKit.Hid (RdA B r S ts j c wr) ∧ RowKit.Hid (wr.heap[w.heap.size]? = some (.cells #[.int .i64 0, .int .i64 0, .string ⟨#[]⟩, .slice none 0 0] 24)) ∧ RowKit.Hid (wr.heap[w.heap.size + 1]? = some (.cells #[.int .i64 u.kind, .int .i64 u.num, .string u.name, .slice As u.args.length cs] 24)) ∧ RowKit.Hid (IsA wr (New (w.heap.size + 2) wr) u.args (.slice As u.args.length cs)) ∧ RowKit.Hid (w.grownBy wr (some r))) (fun wr => ts.length - atOf r wr)
        case atStart => exact ⟨t0, i0, A0, c0, .nil _ _, hi0, HF1.out, HF2.out, HF3.out, HF4.out, HF5.out⟩
        case round =>
          obtain ⟨u, j, As, cs, HNT, HIJ, HRD, HB0, HB1, HIA, HG⟩ := hrel
          have hat := HRD.out.at
          have hwz : w.heap.size + 1 < wr.heap.size := (Array.getElem?_eq_some_iff.1 HB1.out).1
          obtain ⟨q, hq⟩ : ∃ q, q = hereT ts j := ⟨_, rfl⟩
          have HQ := Lib.hid hq
          have HHR := Lib.hid (here_any HRD.out HNs.out)
          rw [← hq] at HHR
          clear hq
          by_cases hk1 : q.kind = 1
          · have hwd := (fun W (hR : RdA B r S ts j c W) => word_yes 1 hR HNs.out (by have := HSs.out; omega) (by rw [← HQ.out]; exact hk1) (by omega))
            rw [hk1] at HHR
            have hlt : j < ts.length := here_lt (by rw [← HQ.out, hk1]; decide)
            have HK1 := Lib.hid hk1
            clear hk1
            go_wp2_with fail
            refine HHR.out.mono ?_
            rintro e w7 ⟨rfl, hb7⟩
            have hrow0 := (hb7.block w.heap.size (by omega)).trans HB0.out
            have hrow1 := (hb7.block (w.heap.size + 1) hwz).trans HB1.out
            obtain ⟨⟨y0, y1, y2, y3⟩, fy0, fy1, fy2, fy3⟩ := row4 hrow1
            have HR0 := Lib.hid hrow0
            have HR1 := Lib.hid hrow1
            have hs7 := hb7.size
            have HRD7 := Lib.hid (HRD.out.below hb7)
            have HIA7 := Lib.hid (HIA.out.newer hb7 (Nat.le_refl _))
            have HG7 := Lib.hid (HG.out.trans (grown_of hb7 r))
            have hz7 : w.heap.size + 1 < w7.heap.size := by omega
            have HWD := Lib.hid (fun W (hb : Below w7.heap.size w7 W) => hwd W (HRD7.out.below hb))
            clear hrow0 hrow1 hb7 HHR hwd
            go_wp2_with fail
            go_region_law (first
              | (rw [if_pos (by simp [Region.wanted])]
                 go_simp
                 go_at_call 60
                 first
                   | (refine (HWD.out _ (drew1 _)).mono ?_
                      rintro e w8 ⟨rfl, hrd8, hg8⟩
                      have hrow1 := (hg8.block (w.heap.size + 1) hz7 (fun e => by cases e; omega)).trans HR1.out
                      obtain ⟨⟨y0, y1, y2, y3⟩, fy0, fy1, fy2, fy3⟩ := row4 hrow1
                      have HG8 := Lib.hid ((HG7.out.trans (grown_of (drew1 w7) r)).trans hg8)
                      have HRW0 := Lib.hid ((hg8.block w.heap.size (Nat.lt_of_succ_lt hz7) (fun e => by cases e; omega)).trans HR0.out)
                      have HRW1 := Lib.hid hrow1
                      have HRD8 := Lib.hid hrd8
                      have HIAX := Lib.hid (show IsA w8 (New (w.heap.size + 2) w8) u.args (.slice As u.args.length cs) from (HIA7.out.same fun g h => hg8.block g h.2 (fun e => by cases e; have := h.1; omega)).weak fun g h => ⟨h.1, Nat.lt_of_lt_of_le h.2 hg8.size⟩)
                      have hz8 : w.heap.size + 1 < w8.heap.size := Nat.lt_of_lt_of_le hz7 hg8.size
                      have HONE := Lib.hid True.intro)
                   | (refine (HWD.out _ (drew2 _ _)).mono ?_
                      rintro e w8 ⟨rfl, hrd8, hg8⟩
                      have hrow1 := (hg8.block (w.heap.size + 1) (by simp; omega) (fun e => by cases e; omega)).trans (lit_d (lit_on HR1.out _))
                      obtain ⟨⟨y0, y1, y2, y3⟩, fy0, fy1, fy2, fy3⟩ := row4 hrow1
                      have HG8 := Lib.hid ((HG7.out.trans (grown_of (drew2 w7 _) r)).trans hg8)
                      have HRW0 := Lib.hid ((hg8.block w.heap.size (by simp; omega) (fun e => by cases e; omega)).trans (lit_d (lit_on HR0.out _)))
                      have HRW1 := Lib.hid hrow1
                      have HRD8 := Lib.hid hrd8
                      have HIAX := Lib.hid True.intro
                      have hz8 : w.heap.size + 1 < w8.heap.size := Nat.lt_of_lt_of_le (by simp; omega) hg8.size
                      have HONE := Lib.hid (one_kept HIA7.out (by omega) (by omega) hg8))))
            all_goals
              go_wp2_with fail
              first
                | (obtain ⟨WZ, hWZ⟩ : ∃ WZ, WZ = (put4 w8 (w.heap.size + 1) (.int .i64 2) (.int .i64 0) (.string (wordF S (hereT ts j).a (hereT ts j).b)) (.slice (some ⟨w8.heap.size, 0, none⟩) 1 1)).alloc (.cells #[.int .i64 u.kind, .int .i64 u.num, .string u.name, .slice As u.args.length cs] 24) := ⟨_, rfl⟩
                   have hone := one_new (g := w.heap.size + 1) HIAX.out (by omega) (by omega) (.int .i64 2) (.int .i64 0) (.string (wordF S (hereT ts j).a (hereT ts j).b)) (.slice (some ⟨w8.heap.size, 0, none⟩) 1 1) w8.heap.size rfl
                   have hRZ : RdA B r S ts (j + 1) c WZ := by rw [hWZ]; exact (HRD8.out.put (by omega) _ _ _ _).below ((Below.refl _ _).alloc (Nat.le_refl _) _)
                   have hatz := hRZ.at
                   have h0 : WZ.heap[w.heap.size]? = some (.cells #[.int .i64 0, .int .i64 0, .string ⟨#[]⟩, .slice none 0 0] 24) := by rw [hWZ]; exact lit_on ((put4_other (by omega) _ _ _ _).trans HRW0.out) _
                   have h1 : WZ.heap[w.heap.size + 1]? = some (.cells #[.int .i64 2, .int .i64 0, .string (wordF S (hereT ts j).a (hereT ts j).b), .slice (some ⟨w8.heap.size, 0, none⟩) 1 1] 24) := by rw [hWZ]; exact lit_on (put4_blk HRW1.out _ _ _ _) _
                   have hgz : w.grownBy WZ (some r) := by rw [hWZ]; exact (grow_put HG8.out (by omega) _ _ _ _).trans (World.grownBy_alloc _ _ _)
                   rw [← hWZ] at hone
                   unfold put4 at hWZ
                   rw [← hWZ]
                   refine ⟨⟨.mk 2 0 (wordT S ts j) [u], j + 1, some ⟨w8.heap.size, 0, none⟩, 1, HNT.out.snoc (by rw [← HQ.out]; exact HK1.out), by have := HIJ.out; exact Nat.le_succ_of_le this, hRZ, h0, h1, hone, hgz⟩, ?_⟩
                   rw [hatz, hat]
                   omega)
                | (obtain ⟨WZ, hWZ⟩ : ∃ WZ, WZ = put4 w8 (w.heap.size + 1) (.int .i64 2) (.int .i64 0) (.string (wordF S (hereT ts j).a (hereT ts j).b)) (.slice (some ⟨w7.heap.size, 0, none⟩) 1 1) := ⟨_, rfl⟩
                   have hRZ : RdA B r S ts (j + 1) c WZ := by rw [hWZ]; exact HRD8.out.put (by omega) _ _ _ _
                   have hatz := hRZ.at
                   have h0 : WZ.heap[w.heap.size]? = some (.cells #[.int .i64 0, .int .i64 0, .string ⟨#[]⟩, .slice none 0 0] 24) := by rw [hWZ]; exact (put4_other (by omega) _ _ _ _).trans HRW0.out
                   have h1 : WZ.heap[w.heap.size + 1]? = some (.cells #[.int .i64 2, .int .i64 0, .string (wordF S (hereT ts j).a (hereT ts j).b), .slice (some ⟨w7.heap.size, 0, none⟩) 1 1] 24) := by rw [hWZ]; exact put4_blk HRW1.out _ _ _ _
                   have hgz : w.grownBy WZ (some r) := by rw [hWZ]; exact grow_put HG8.out (by omega) _ _ _ _
                   have hone : IsA WZ (New (w.heap.size + 2) WZ) [u] (.slice (some ⟨w7.heap.size, 0, none⟩) 1 1) := by rw [hWZ]; exact new_put HONE.out (by omega) (Nat.le_refl _) _ _ _ _
                   unfold put4 at hWZ
                   rw [← hWZ]
                   refine ⟨⟨.mk 2 0 (wordT S ts j) [u], j + 1, some ⟨w7.heap.size, 0, none⟩, 1, HNT.out.snoc (by rw [← HQ.out]; exact HK1.out), by have := HIJ.out; exact Nat.le_succ_of_le this, hRZ, h0, h1, hone, hgz⟩, ?_⟩
                   rw [hatz, hat]
                   omega)
          · have hk2 : ((q.kind : Int) == 1) = false := by simp; omega
            have hk3 : ¬ (q.kind : Int) = 1 := by omega
            have HK1 := Lib.hid hk1
            clear hk1
            go_wp2_with fail
            refine HHR.out.mono ?_
            rintro e w7 ⟨rfl, hb7⟩
            have hrow0 := (hb7.block w.heap.size (by omega)).trans HB0.out
            have hrow1 := (hb7.block (w.heap.size + 1) hwz).trans HB1.out
            obtain ⟨⟨r0, r1, r2, r3⟩, fr0, fr1, fr2, fr3⟩ := row4 hrow0
            obtain ⟨⟨y0, y1, y2, y3⟩, -⟩ := row4 hrow1
            have HR0 := Lib.hid hrow0
            have hs7 := hb7.size
            have HRD7 := Lib.hid (HRD.out.below hb7)
            have HIA7 := Lib.hid (HIA.out.newer hb7 (Nat.le_refl _))
            have HG7 := Lib.hid (HG.out.trans (grown_of hb7 r))
            have hz7 : w.heap.size + 1 < w7.heap.size := by omega
            have hz8 : w.heap.size < w7.heap.size := by omega
            clear hrow0 hrow1 hb7
            go_wp2_with fail
            refine bodyPost_ret (v := .agg #[.int .i64 u.kind, .int .i64 u.num, .string u.name, .slice As u.args.length cs]) (results_cell_row rfl _ _ w.heap.size 24 #[.int .i64 u.kind, .int .i64 u.num, .string u.name, .slice As u.args.length cs] (0, 0) _ rfl (put4_blk HR0.out _ _ _ _) Tryz.underlying24 rfl infoTy4) rfl ?_
            exact ⟨u, j, c, As, cs, ⟨t0, i0, HHd.out, HNT.out, by rw [← HQ.out]; exact HK1.out⟩, rfl, new_put HIA7.out (by omega) (by omega) _ _ _ _, HIJ.out, rd_put HRD7.out HG7.out hr _ (Nat.le_refl _) _ _ _ _⟩
      · have hhd : ∀ t0 i0 c, BrR (WholeR S ts k) S ts (i + 1) b t0 i0 c → HeadR (WholeR S ts k) S ts i b t0 i0 c := fun t0 i0 c h => by unfold HeadR; rw [if_neg h4, if_neg h1, hz]; exact h
        have HHD := Lib.hid hhd
        have HTK := Lib.hid (fun W (hR : RdA B r S ts i b W) => take_yes hz hR HNs.out HSs.out)
        clear hhd ht h4 h1 hz HH
        go_enter Tryz.func43, Tryz.ntmps43
        go_wp2_with fail
        rw [← HM.out]
        refine (HH2.out M (Below.refl _ _)).mono ?_
        rintro e w0 ⟨rfl, hb0⟩
        have HB0 := Lib.hid hb0
        go_wp2_with fail
        refine (HH2.out w0 HB0.out).mono ?_
        rintro e w1 ⟨rfl, hb1⟩
        have hbb := HB0.out.trans (hb1.mono HB0.out.size)
        have HTC := Lib.hid (HTK.out w1 (HRM.out.below hbb))
        have HG0 := Lib.hid (grown_of hbb r)
        clear hb0 hb1 hbb
        go_wp2_with fail
        refine HTC.out.mono ?_
        rintro e wb ⟨rfl, hrdb, hgb⟩
        have HGB := Lib.hid (HG0.out.trans hgb)
        have hwb := HGB.out.size
        have HBC := Lib.hid (HBra.out (i + 1) b wb hrdb (HEM.out.on ((Below.refl B M).grown HGB.out (by have := HMs.out; omega) (fun g e => by cases e; exact hBr))))
        clear hrdb hgb
        go_wp2_with fail
        refine HBC.out.mono ?_
        rintro e w2 ⟨t0, i0, c, A0, c0, hR0, rfl, hIA0, hij0, hrdp⟩
        obtain ⟨hrd2, hg2⟩ := hrdp.out
        have HIA0 := Lib.hid (show IsA w2 (New (w.heap.size + 2) w2) t0.args (.slice A0 t0.args.length c0) from hIA0.out.weak fun g h => ⟨by have := h.1; have := HMs.out; omega, h.2⟩)
        have HR0 := Lib.hid hR0
        unfold tv
        clear hrdp hIA0 hR0
        have hsz2 := hg2.size
        have hsz1 := HMs.out
        have hsb := HGB.out.size
        have hrow0 := (hg2.block w.heap.size (by omega) (fun e => by cases e; omega)).trans ((HGB.out.block _ (by omega) (fun e => by cases e; omega)).trans HBK.out)
        have hrow1 := (hg2.block (w.heap.size + 1) (by omega) (fun e => by cases e; omega)).trans ((HGB.out.block _ (by omega) (fun e => by cases e; omega)).trans HBT.out)
        obtain ⟨⟨r0, r1, r2, r3⟩, fr0, fr1, fr2, fr3⟩ := row4 hrow1
        have hwg : w.grownBy w2 (some r) := (grown_of HMB.out r).trans (HGB.out.trans hg2)
        go_wp2_with fail
        obtain ⟨WF, hWF⟩ : ∃ WF, WF = put4 w2 (w.heap.size + 1) (.int .i64 t0.kind) (.int .i64 t0.num) (.string t0.name) (.slice A0 t0.args.length c0) := ⟨_, rfl⟩
        have HHA := Lib.hid (show HeadAt B r S ts k i b w WF by
          rw [hWF]
          exact head_at (t0 := t0) (HHD.out _ _ _ HR0.out) (by omega) hrd2 hr hrow0 hrow1 HIA0.out hwg)
        unfold put4 at hWF
        rw [← hWF]
        clear hWF hrow0 hrow1 hwg hrd2 hg2 r0 r1 r2 r3 fr0 fr1 fr2 fr3
        clear HBC HTC HTK HH2 HHD HR0 HIA0
        clear hij0
        obtain ⟨t0, i0, c, A0, c0, hhd, hi0, hrdF, hb0, hb1, hA0, hgF⟩ := HHA.out
        have HHd := Lib.hid hhd
        have HF1 := Lib.hid hrdF
        have HF2 := Lib.hid hb0
        have HF3 := Lib.hid hb1
        have HF4 := Lib.hid hA0
        have HF5 := Lib.hid hgF
        clear hhd hrdF hb0 hb1 hA0 hgF HHA
        go_loopw [] (fun wr => ∃ (u : Ty) (j : Nat) (As : Option Addr) (cs : Nat), RowKit.Hid (NamesTo S ts t0 i0 u j) ∧ RowKit.Hid (i ≤ j) ∧ RowKit.Hid (RdA B r S ts j c wr) ∧ RowKit.Hid (wr.heap[w.heap.size]? = some (.cells #[.int .i64 0, .int .i64 0, .string ⟨#[]⟩, .slice none 0 0] 24)) ∧ RowKit.Hid (wr.heap[w.heap.size + 1]? = some (.cells #[.int .i64 u.kind, .int .i64 u.num, .string u.name, .slice As u.args.length cs] 24)) ∧ RowKit.Hid (IsA wr (New (w.heap.size + 2) wr) u.args (.slice As u.args.length cs)) ∧ RowKit.Hid (w.grownBy wr (some r))) (fun wr => ts.length - atOf r wr)
        case atStart => exact ⟨t0, i0, A0, c0, .nil _ _, hi0, HF1.out, HF2.out, HF3.out, HF4.out, HF5.out⟩
        case round =>
          obtain ⟨u, j, As, cs, HNT, HIJ, HRD, HB0, HB1, HIA, HG⟩ := hrel
          have hat := HRD.out.at
          have hwz : w.heap.size + 1 < wr.heap.size := (Array.getElem?_eq_some_iff.1 HB1.out).1
          obtain ⟨q, hq⟩ : ∃ q, q = hereT ts j := ⟨_, rfl⟩
          have HQ := Lib.hid hq
          have HHR := Lib.hid (here_any HRD.out HNs.out)
          rw [← hq] at HHR
          clear hq
          by_cases hk1 : q.kind = 1
          · have hwd := (fun W (hR : RdA B r S ts j c W) => word_yes 1 hR HNs.out (by have := HSs.out; omega) (by rw [← HQ.out]; exact hk1) (by omega))
            rw [hk1] at HHR
            have hlt : j < ts.length := here_lt (by rw [← HQ.out, hk1]; decide)
            have HK1 := Lib.hid hk1
            clear hk1
            go_wp2_with fail
            refine HHR.out.mono ?_
            rintro e w7 ⟨rfl, hb7⟩
            have hrow0 := (hb7.block w.heap.size (by omega)).trans HB0.out
            have hrow1 := (hb7.block (w.heap.size + 1) hwz).trans HB1.out
            obtain ⟨⟨y0, y1, y2, y3⟩, fy0, fy1, fy2, fy3⟩ := row4 hrow1
            have HR0 := Lib.hid hrow0
            have HR1 := Lib.hid hrow1
            have hs7 := hb7.size
            have HRD7 := Lib.hid (HRD.out.below hb7)
            have HIA7 := Lib.hid (HIA.out.newer hb7 (Nat.le_refl _))
            have HG7 := Lib.hid (HG.out.trans (grown_of hb7 r))
            have hz7 : w.heap.size + 1 < w7.heap.size := by omega
            have HWD := Lib.hid (fun W (hb : Below w7.heap.size w7 W) => hwd W (HRD7.out.below hb))
            clear hrow0 hrow1 hb7 HHR hwd
            go_wp2_with fail
            go_region_law (first
              | (rw [if_pos (by simp [Region.wanted])]
                 go_simp
                 go_at_call 60
                 first
                   | (refine (HWD.out _ (drew1 _)).mono ?_
                      rintro e w8 ⟨rfl, hrd8, hg8⟩
                      have hrow1 := (hg8.block (w.heap.size + 1) hz7 (fun e => by cases e; omega)).trans HR1.out
                      obtain ⟨⟨y0, y1, y2, y3⟩, fy0, fy1, fy2, fy3⟩ := row4 hrow1
                      have HG8 := Lib.hid ((HG7.out.trans (grown_of (drew1 w7) r)).trans hg8)
                      have HRW0 := Lib.hid ((hg8.block w.heap.size (Nat.lt_of_succ_lt hz7) (fun e => by cases e; omega)).trans HR0.out)
                      have HRW1 := Lib.hid hrow1
                      have HRD8 := Lib.hid hrd8
                      have HIAX := Lib.hid (show IsA w8 (New (w.heap.size + 2) w8) u.args (.slice As u.args.length cs) from (HIA7.out.same fun g h => hg8.block g h.2 (fun e => by cases e; have := h.1; omega)).weak fun g h => ⟨h.1, Nat.lt_of_lt_of_le h.2 hg8.size⟩)
                      have hz8 : w.heap.size + 1 < w8.heap.size := Nat.lt_of_lt_of_le hz7 hg8.size
                      have HONE := Lib.hid True.intro)
                   | (refine (HWD.out _ (drew2 _ _)).mono ?_
                      rintro e w8 ⟨rfl, hrd8, hg8⟩
                      have hrow1 := (hg8.block (w.heap.size + 1) (by simp; omega) (fun e => by cases e; omega)).trans (lit_d (lit_on HR1.out _))
                      obtain ⟨⟨y0, y1, y2, y3⟩, fy0, fy1, fy2, fy3⟩ := row4 hrow1
                      have HG8 := Lib.hid ((HG7.out.trans (grown_of (drew2 w7 _) r)).trans hg8)
                      have HRW0 := Lib.hid ((hg8.block w.heap.size (by simp; omega) (fun e => by cases e; omega)).trans (lit_d (lit_on HR0.out _)))
                      have HRW1 := Lib.hid hrow1
                      have HRD8 := Lib.hid hrd8
                      have HIAX := Lib.hid True.intro
                      have hz8 : w.heap.size + 1 < w8.heap.size := Nat.lt_of_lt_of_le (by simp; omega) hg8.size
                      have HONE := Lib.hid (one_kept HIA7.out (by omega) (by omega) hg8))))
            all_goals
              go_wp2_with fail
              first
                | (obtain ⟨WZ, hWZ⟩ : ∃ WZ, WZ = (put4 w8 (w.heap.size + 1) (.int .i64 2) (.int .i64 0) (.string (wordF S (hereT ts j).a (hereT ts j).b)) (.slice (some ⟨w8.heap.size, 0, none⟩) 1 1)).alloc (.cells #[.int .i64 u.kind, .int .i64 u.num, .string u.name, .slice As u.args.length cs] 24) := ⟨_, rfl⟩
                   have hone := one_new (g := w.heap.size + 1) HIAX.out (by omega) (by omega) (.int .i64 2) (.int .i64 0) (.string (wordF S (hereT ts j).a (hereT ts j).b)) (.slice (some ⟨w8.heap.size, 0, none⟩) 1 1) w8.heap.size rfl
                   have hRZ : RdA B r S ts (j + 1) c WZ := by rw [hWZ]; exact (HRD8.out.put (by omega) _ _ _ _).below ((Below.refl _ _).alloc (Nat.le_refl _) _)
                   have hatz := hRZ.at
                   have h0 : WZ.heap[w.heap.size]? = some (.cells #[.int .i64 0, .int .i64 0, .string ⟨#[]⟩, .slice none 0 0] 24) := by rw [hWZ]; exact lit_on ((put4_other (by omega) _ _ _ _).trans HRW0.out) _
                   have h1 : WZ.heap[w.heap.size + 1]? = some (.cells #[.int .i64 2, .int .i64 0, .string (wordF S (hereT ts j).a (hereT ts j).b), .slice (some ⟨w8.heap.size, 0, none⟩) 1 1] 24) := by rw [hWZ]; exact lit_on (put4_blk HRW1.out _ _ _ _) _
                   have hgz : w.grownBy WZ (some r) := by rw [hWZ]; exact (grow_put HG8.out (by omega) _ _ _ _).trans (World.grownBy_alloc _ _ _)
                   rw [← hWZ] at hone
                   unfold put4 at hWZ
                   rw [← hWZ]
                   refine ⟨⟨.mk 2 0 (wordT S ts j) [u], j + 1, some ⟨w8.heap.size, 0, none⟩, 1, HNT.out.snoc (by rw [← HQ.out]; exact HK1.out), by have := HIJ.out; exact Nat.le_succ_of_le this, hRZ, h0, h1, hone, hgz⟩, ?_⟩
                   rw [hatz, hat]
                   omega)
                | (obtain ⟨WZ, hWZ⟩ : ∃ WZ, WZ = put4 w8 (w.heap.size + 1) (.int .i64 2) (.int .i64 0) (.string (wordF S (hereT ts j).a (hereT ts j).b)) (.slice (some ⟨w7.heap.size, 0, none⟩) 1 1) := ⟨_, rfl⟩
                   have hRZ : RdA B r S ts (j + 1) c WZ := by rw [hWZ]; exact HRD8.out.put (by omega) _ _ _ _
                   have hatz := hRZ.at
                   have h0 : WZ.heap[w.heap.size]? = some (.cells #[.int .i64 0, .int .i64 0, .string ⟨#[]⟩, .slice none 0 0] 24) := by rw [hWZ]; exact (put4_other (by omega) _ _ _ _).trans HRW0.out
                   have h1 : WZ.heap[w.heap.size + 1]? = some (.cells #[.int .i64 2, .int .i64 0, .string (wordF S (hereT ts j).a (hereT ts j).b), .slice (some ⟨w7.heap.size, 0, none⟩) 1 1] 24) := by rw [hWZ]; exact put4_blk HRW1.out _ _ _ _
                   have hgz : w.grownBy WZ (some r) := by rw [hWZ]; exact grow_put HG8.out (by omega) _ _ _ _
                   have hone : IsA WZ (New (w.heap.size + 2) WZ) [u] (.slice (some ⟨w7.heap.size, 0, none⟩) 1 1) := by rw [hWZ]; exact new_put HONE.out (by omega) (Nat.le_refl _) _ _ _ _
                   unfold put4 at hWZ
                   rw [← hWZ]
                   refine ⟨⟨.mk 2 0 (wordT S ts j) [u], j + 1, some ⟨w7.heap.size, 0, none⟩, 1, HNT.out.snoc (by rw [← HQ.out]; exact HK1.out), by have := HIJ.out; exact Nat.le_succ_of_le this, hRZ, h0, h1, hone, hgz⟩, ?_⟩
                   rw [hatz, hat]
                   omega)
          · have hk2 : ((q.kind : Int) == 1) = false := by simp; omega
            have hk3 : ¬ (q.kind : Int) = 1 := by omega
            have HK1 := Lib.hid hk1
            clear hk1
            go_wp2_with fail
            refine HHR.out.mono ?_
            rintro e w7 ⟨rfl, hb7⟩
            have hrow0 := (hb7.block w.heap.size (by omega)).trans HB0.out
            have hrow1 := (hb7.block (w.heap.size + 1) hwz).trans HB1.out
            obtain ⟨⟨r0, r1, r2, r3⟩, fr0, fr1, fr2, fr3⟩ := row4 hrow0
            obtain ⟨⟨y0, y1, y2, y3⟩, -⟩ := row4 hrow1
            have HR0 := Lib.hid hrow0
            have hs7 := hb7.size
            have HRD7 := Lib.hid (HRD.out.below hb7)
            have HIA7 := Lib.hid (HIA.out.newer hb7 (Nat.le_refl _))
            have HG7 := Lib.hid (HG.out.trans (grown_of hb7 r))
            have hz7 : w.heap.size + 1 < w7.heap.size := by omega
            have hz8 : w.heap.size < w7.heap.size := by omega
            clear hrow0 hrow1 hb7
            go_wp2_with fail
            refine bodyPost_ret (v := .agg #[.int .i64 u.kind, .int .i64 u.num, .string u.name, .slice As u.args.length cs]) (results_cell_row rfl _ _ w.heap.size 24 #[.int .i64 u.kind, .int .i64 u.num, .string u.name, .slice As u.args.length cs] (0, 0) _ rfl (put4_blk HR0.out _ _ _ _) Tryz.underlying24 rfl infoTy4) rfl ?_
            exact ⟨u, j, c, As, cs, ⟨t0, i0, HHd.out, HNT.out, by rw [← HQ.out]; exact HK1.out⟩, rfl, new_put HIA7.out (by omega) (by omega) _ _ _ _, HIJ.out, rd_put HRD7.out HG7.out hr _ (Nat.le_refl _) _ _ _ _⟩
end Go.Proofs.YtmpmibebkflaiaaGreatDoor
