/- The contract of the reader's whole. -/
import Derived.Test.YtmpmibebkflaiaaGreatDoorTypRg
import Derived.Deep.Cut
import Derived.IntWalk
namespace Go.Proofs.YtmpmibebkflaiaaGreatDoor
open Go.RowKit Go.Lib Go.Shelf Go.Sort Tp
set_option maxRecDepth 100000
set_option linter.unusedVariables false
set_option linter.unusedSectionVars false

theorem two_new {W : World} {B : Nat} {u y : Ty} {s1 s2 : Value} (h1 : IsA W (New B W) u.args s1) (h2 : IsA W (New B W) y.args s2) (hB : B ≤ W.heap.size) (n : Nat) (hn : n = W.heap.size) :
    IsA (W.alloc (.cells #[.int .i64 u.kind, .int .i64 u.num, .string u.name, s1, .int .i64 y.kind, .int .i64 y.num, .string y.name, s2] 24)) (New B (W.alloc (.cells #[.int .i64 u.kind, .int .i64 u.num, .string u.name, s1, .int .i64 y.kind, .int .i64 y.num, .string y.name, s2] 24))) [u, y] (.slice (some ⟨n, 0, none⟩) 2 2) := by
  subst hn
  have hk : ∀ {ls : List Ty} {s : Value}, IsA W (New B W) ls s → IsA (W.alloc (.cells #[.int .i64 u.kind, .int .i64 u.num, .string u.name, s1, .int .i64 y.kind, .int .i64 y.num, .string y.name, s2] 24)) (New B (W.alloc (.cells #[.int .i64 u.kind, .int .i64 u.num, .string u.name, s1, .int .i64 y.kind, .int .i64 y.num, .string y.name, s2] 24))) ls s := fun h => h.newer ((Below.refl _ _).alloc (Nat.le_refl _) _) (Nat.le_refl _)
  have hb := heap_alloc_new W (.cells #[.int .i64 u.kind, .int .i64 u.num, .string u.name, s1, .int .i64 y.kind, .int .i64 y.num, .string y.name, s2] 24)
  refine .mk _ _ _ _ W.heap.size 0 (fun i => if i = 0 then s1 else s2) rfl (Nat.le_refl _) (fun _ => ⟨rfl, hB, by simp⟩) (fun i t hi => ?_) (fun i t hi => ?_)
  · match i, hi with
    | 0, hi =>
      simp at hi
      subst hi
      simp only [World.cell?, hb]
      exact ⟨rfl, rfl, rfl, rfl⟩
    | 1, hi =>
      simp at hi
      subst hi
      simp only [World.cell?, hb]
      exact ⟨rfl, rfl, rfl, rfl⟩
    | i + 2, hi => simp at hi
  · match i, hi with
    | 0, hi =>
      simp at hi
      subst hi
      exact hk h1
    | 1, hi =>
      simp at hi
      subst hi
      exact hk h2
    | i + 2, hi => simp at hi
theorem zero_out {B r : Nat} {S : ByteArray} {ts : List Lx.Tok} {i : Nat} {b b' : Bool} {w : World} (h : RdA B r S ts i b w) {R : Step} (hR : R i b zeroT i b') :
    ((w.setCell ⟨r, 3, none⟩ (.bool b')).alloc (.cells #[.int .i64 0, .int .i64 0, .string ⟨#[]⟩, .slice none 0 0] 24)).heap[w.heap.size]? = some (.cells #[.int .i64 0, .int .i64 0, .string ⟨#[]⟩, .slice none 0 0] 24 (0, 0)) ∧
    StPost B r S ts R i b w (.returned (.agg #[.int .i64 0, .int .i64 0, .string ⟨#[]⟩, .slice none 0 0])) ((w.setCell ⟨r, 3, none⟩ (.bool b')).alloc (.cells #[.int .i64 0, .int .i64 0, .string ⟨#[]⟩, .slice none 0 0] 24)) :=
  ⟨obj_new _ _ _ (by simp [World.setCell]), zeroT, i, b', none, 0, hR, rfl, IsA.nil _ _ _ _, Nat.le_refl _, (h.wrong b').below ((Below.refl _ _).alloc (Nat.le_refl _) _), (grownBy_set _).trans (World.grownBy_alloc _ _ _)⟩
set_option maxHeartbeats 4000000 in
theorem whole_wrong {B r : Nat} {S : ByteArray} {ts : List Lx.Tok} {i : Nat} {b : Bool} {w : World} {d : Int} (h : RdA B r S ts i b w) (hb : b = true ∨ d = 301) {R : Step} (hR : R i b zeroT i true) :
    Calls Tryz.prog 28 #[.pointer (some ⟨r, 0, none⟩), .int .i64 d] w (StPost B r S ts R i b w) := by
  have hr := h.lt
  obtain ⟨A6, c6, hk6, -⟩ := id h
  obtain ⟨⟨q0, q1, q2, q3⟩, f0, f1, f2, f3⟩ := row4 hk6
  have HZ := Lib.hid (zero_out h hR)
  clear h hk6 hR
  cases b
  · rcases hb with hb | rfl
    · cases hb
    go_enter Tryz.func28, Tryz.ntmps28
    go_wp2_with fail
    refine bodyPost_ret (v := .agg #[.int .i64 0, .int .i64 0, .string ⟨#[]⟩, .slice none 0 0]) (results_cell_row rfl _ _ w.heap.size 24 #[.int .i64 0, .int .i64 0, .string ⟨#[]⟩, .slice none 0 0] (0, 0) _ rfl HZ.out.1 Tryz.underlying24 rfl infoTy4) rfl ?_
    exact HZ.out.2
  · clear hb
    go_enter Tryz.func28, Tryz.ntmps28
    go_wp2_with fail
    refine bodyPost_ret (v := .agg #[.int .i64 0, .int .i64 0, .string ⟨#[]⟩, .slice none 0 0]) (results_cell_row rfl _ _ w.heap.size 24 #[.int .i64 0, .int .i64 0, .string ⟨#[]⟩, .slice none 0 0] (0, 0) _ rfl HZ.out.1 Tryz.underlying24 rfl infoTy4) rfl ?_
    exact HZ.out.2
theorem whole_zero (B r : Nat) (S : ByteArray) (ts : List Lx.Tok) : WholeAt B r S ts 0 := fun i b w d hd h hE => whole_wrong h (.inr (by omega)) ⟨rfl, rfl, rfl⟩
/-- whole stands behind its "*": what stands on the left. -/
def LeftAt (B r : Nat) (S : ByteArray) (ts : List Lx.Tok) (w : World) (n6 : Nat) (lt : Ty) (i2 : Nat) (b2 : Bool) (WL : World) : Prop := ∃ AL cL, WL.heap[n6]? = some (.cells #[.int .i64 lt.kind, .int .i64 lt.num, .string lt.name, .slice AL lt.args.length cL] 24) ∧
  WL.heap[w.heap.size]? = some (.cells #[.int .i64 0, .int .i64 0, .string ⟨#[]⟩, .slice none 0 0] 24) ∧ IsA WL (New (w.heap.size + 1) WL) lt.args (.slice AL lt.args.length cL) ∧ RdA B r S ts i2 b2 WL ∧ w.grownBy WL (some r)
theorem left_at {B r : Nat} {S : ByteArray} {ts : List Lx.Tok} {w w2 : World} {lt : Ty} {i2 : Nat} {b2 : Bool} {AL : Option Addr} {cL : Nat} (h0 : w2.heap[w.heap.size]? = some (.cells #[.int .i64 0, .int .i64 0, .string ⟨#[]⟩, .slice none 0 0] 24)) (hI : IsA w2 (New (w.heap.size + 1) w2) lt.args (.slice AL lt.args.length cL))
    (hR : RdA B r S ts i2 b2 w2) (hg : w.grownBy w2 (some r)) : LeftAt B r S ts w w2.heap.size lt i2 b2 (w2.alloc (.cells #[.int .i64 lt.kind, .int .i64 lt.num, .string lt.name, .slice AL lt.args.length cL] 24)) :=
  ⟨AL, cL, heap_alloc_new _ _, lit_on h0 _, hI.newer ((Below.refl _ _).alloc (Nat.le_refl _) _) (Nat.le_refl _), hR.below ((Below.refl _ _).alloc (Nat.le_refl _) _), hg.trans (World.grownBy_alloc _ _ _)⟩
/-- what the arrow's right side leaves. -/
def BackPost (B r : Nat) (S : ByteArray) (ts : List Lx.Tok) (w : World) (n6 : Nat) (lt : Ty) (AL : Option Addr) (cL : Nat) (R : Step) (i : Nat) (b : Bool) (e : Ending) (w6 : World) : Prop :=
  ∃ y j c A7 c7, e = .returned (.agg #[.int .i64 y.kind, .int .i64 y.num, .string y.name, .slice A7 y.args.length c7]) ∧
    (w6.cell? ⟨n6, 0, none⟩ = some (.int .i64 lt.kind) ∧ w6.cell? ⟨n6, 1, none⟩ = some (.int .i64 lt.num) ∧ w6.cell? ⟨n6, 2, none⟩ = some (.string lt.name) ∧ w6.cell? ⟨n6, 3, none⟩ = some (.slice AL lt.args.length cL)) ∧
    ((w6.cell? ⟨w.heap.size, 0, none⟩ = some (.int .i64 0) ∧ w6.cell? ⟨w.heap.size, 1, none⟩ = some (.int .i64 0) ∧ w6.cell? ⟨w.heap.size, 2, none⟩ = some (.string ⟨#[]⟩) ∧ w6.cell? ⟨w.heap.size, 3, none⟩ = some (.slice none 0 0)) ∧ (w6.frozen? ⟨w.heap.size, 0, none⟩ = false ∧ w6.frozen? ⟨w.heap.size, 1, none⟩ = false ∧ w6.frozen? ⟨w.heap.size, 2, none⟩ = false ∧ w6.frozen? ⟨w.heap.size, 3, none⟩ = false)) ∧
    w.heap.size < w6.heap.size ∧ n6 < w6.heap.size ∧
    RowKit.Hid (R i b y j c ∧ i ≤ j ∧ w6.heap[w.heap.size]? = some (.cells #[.int .i64 0, .int .i64 0, .string ⟨#[]⟩, .slice none 0 0] 24) ∧ IsA w6 (New (w.heap.size + 1) w6) lt.args (.slice AL lt.args.length cL) ∧ IsA w6 (New (w.heap.size + 1) w6) y.args (.slice A7 y.args.length c7) ∧ RdA B r S ts j c w6 ∧ w.grownBy w6 (some r))
theorem back_post {B r : Nat} {S : ByteArray} {ts : List Lx.Tok} {w w5 : World} {n6 : Nat} {lt : Ty} {AL : Option Addr} {cL : Nat} {R : Step} {i : Nat} {b : Bool} (hr : r < w.heap.size) (hz5 : w.heap.size < w5.heap.size) (hn7 : w.heap.size < n6) (hz6 : n6 < w5.heap.size)
    (h0 : w5.heap[w.heap.size]? = some (.cells #[.int .i64 0, .int .i64 0, .string ⟨#[]⟩, .slice none 0 0] 24)) (h6 : w5.heap[n6]? = some (.cells #[.int .i64 lt.kind, .int .i64 lt.num, .string lt.name, .slice AL lt.args.length cL] 24))
    (hI : IsA w5 (New (w.heap.size + 1) w5) lt.args (.slice AL lt.args.length cL)) (hG : w.grownBy w5 (some r)) {e : Ending} {w6 : World} (hp : StPost B r S ts R i b w5.drew e w6) : BackPost B r S ts w n6 lt AL cL R i b e w6 := by
  obtain ⟨y, j, c, A7, c7, hRy, rfl, hy, hij, hpy⟩ := hp
  obtain ⟨hrd6, hg6⟩ := hpy.out
  have hg6 : w5.grownBy w6 (some r) := (grown_of (drew1 w5) r).trans hg6
  have hs6 := hg6.size
  have hrow0 := (hg6.block w.heap.size hz5 (fun e => by cases e; omega)).trans h0
  have hrow1 := (hg6.block n6 hz6 (fun e => by cases e; omega)).trans h6
  exact ⟨y, j, c, A7, c7, rfl, (row4 hrow1).1, row4 hrow0, by omega, by omega, hRy, hij, hrow0, (hI.same fun g h => hg6.block g h.2 (fun e => by cases e; have := h.1; omega)).weak fun g h => ⟨h.1, Nat.lt_of_lt_of_le h.2 hg6.size⟩,
    hy.out.weak fun g h => ⟨Nat.le_trans (Nat.succ_le_of_lt hz5) h.1, h.2⟩, hrd6, hG.trans hg6⟩
set_option maxHeartbeats 8000000 in
theorem whole_next {B r : Nat} {S : ByteArray} {ts : List Lx.Tok} (k : Nat) (hk : k ≤ 300) (hW : WholeAt B r S ts k) (hn : ts.length ≤ 1000000000) (hs : S.size ≤ 1000000000) (hT : TicksOk S ts)
    (i : Nat) (w : World) (d : Int) (hd : d = 300 - (k : Int)) (h : RdA B r S ts i false w) (hE : ErrsB B w) :
    Calls Tryz.prog 28 #[.pointer (some ⟨r, 0, none⟩), .int .i64 d] w (StPost B r S ts (WholeR S ts (k + 1)) i false w) := by
  obtain ⟨i0, hi, hz0, hz1, hz2⟩ := info_parts infoTy
  obtain ⟨M, hM⟩ : ∃ M, M = (w.setCell ⟨r, 3, none⟩ (.bool false)).alloc (.cells #[.int .i64 0, .int .i64 0, .string ⟨#[]⟩, .slice none 0 0] 24) := ⟨_, rfl⟩
  have hr := h.lt
  have hBr : B ≤ r := by obtain ⟨_, _, _, _, hB, _⟩ := h; exact hB
  have hsz0 : (w.setCell ⟨r, 3, none⟩ (.bool false)).heap.size = w.heap.size := by simp [World.setCell]
  have hMg : w.grownBy M (some r) := by rw [hM]; exact (grownBy_set _).trans (World.grownBy_alloc _ _ _)
  have hMs : M.heap.size = w.heap.size + 1 := by rw [hM]; simp [World.setCell]
  have hbk : M.heap[w.heap.size]? = some (.cells #[.int .i64 0, .int .i64 0, .string ⟨#[]⟩, .slice none 0 0] 24) := by rw [hM]; exact obj_new _ _ _ hsz0.symm
  have hRM : RdA B r S ts i false M := by rw [hM]; exact (h.wrong false).below ((Below.refl _ _).alloc (Nat.le_refl _) _)
  obtain ⟨A6, c6, hk6, -⟩ := id h
  obtain ⟨⟨q0, q1, q2, q3⟩, f0, f1, f2, f3⟩ := row4 hk6
  have hd1 : d + 1 = 301 - (k : Int) := by omega
  have hd0 : 0 ≤ d := by omega
  have hd2 : d ≤ 300 := by omega
  have hd3 : ¬ (300 : Int) < d := by omega
  have hEM := hE.on ((Below.refl B w).grown hMg (by omega) (fun g e => by cases e; exact hBr))
  have HC := Lib.hid (named_any k hk hW hn hs hT i false M d hd hRM hEM)
  have HNm := Lib.hid (fun i b W => named_any k hk hW hn hs hT i b W d hd)
  have HWh := Lib.hid (fun i b W => hW i b W (d + 1) hd1)
  have HEM := Lib.hid hEM
  have HE0 := Lib.hid hE
  have HM := Lib.hid hM
  have HMs := Lib.hid hMs
  have HMG := Lib.hid hMg
  have HBK := Lib.hid hbk
  have HNs := Lib.hid hn
  have HSs := Lib.hid hs
  clear hW hM hMs hMg hbk hd hd1 h hE hn hs hk6 hEM hRM hT hsz0
  go_enter Tryz.func28, Tryz.ntmps28
  go_wp2_with fail
  rw [← HM.out]
  refine HC.out.mono ?_
  rintro e w1 ⟨x, i1, b1, A1, cp1, hR1, rfl, hx1, hi1, hp1⟩
  unfold tv
  obtain ⟨hrd1, hg1⟩ := hp1.out
  have hs1 := hg1.size
  have hMs := HMs.out
  have hT1 := Tys.one (B := w.heap.size + 1) (hx1.out.weak fun g hg => ⟨by have := hg.1; omega, hg.2⟩) (by omega) _ rfl
  have HT1 := Lib.hid hT1
  have HR1 := Lib.hid hR1
  have HRD1 := Lib.hid hrd1
  have HX1 := Lib.hid (show BelowX (w.heap.size + 1) r M w1 from (BelowX.of_grown hg1 (by omega)))
  clear HC hx1 hp1 hrd1 hg1 hT1 hR1 q0 q1 q2 q3 f0 f1 f2 f3
  go_wp2_with fail
  go_loopw [5] (fun v wr => ∃ (l : List Ty) (i2 : Nat) (b2 : Bool), RowKit.Hid (SepTo (NamedR (WholeR S ts k) S ts) S ⟨#[42]⟩ ts i1 b1 l i2 b2) ∧ RowKit.Hid (Tys (w.heap.size + 1) (fun g => w.heap.size + 1 ≤ g) (x :: l) v wr) ∧ RowKit.Hid (RdA B r S ts i2 b2 wr) ∧ RowKit.Hid (l.length ≤ i2 ∧ i ≤ i2) ∧ RowKit.Hid (BelowX (w.heap.size + 1) r M wr)) (fun _ wr => ts.length - atOf r wr)
  case atStart => exact ⟨[], i1, b1, .nil _ _, HT1.out, HRD1.out.below ((Below.refl _ _).alloc (Nat.le_refl _) _), ⟨Nat.zero_le _, hi1⟩, HX1.out.trans (BelowX.of_below ((Below.refl _ _).alloc (by omega) _))⟩
  case round =>
    obtain ⟨l, i2, b2, HS, HT, HRD, HL, HX⟩ := hrel
    have hMw : w.heap.size + 1 ≤ wr.heap.size := by have := HX.out.2.2.2.1; omega
    have hat := HRD.out.at
    obtain ⟨Av, cv, rfl⟩ := HT.out.len
    cases hz : isT S ⟨#[42]⟩ (hereT ts i2)
    · have HTK := Lib.hid (take_no hz HRD.out HNs.out HSs.out)
      have HZ := Lib.hid hz
      clear hz
      go_wp2_with fail
      refine HTK.out.mono ?_
      rintro e w2 ⟨rfl, hrd2, hg2⟩
      have hs2 := hg2.size
      have HX2 := Lib.hid (HX.out.trans (BelowX.of_grown hg2 (by omega)))
      have HT2 := Lib.hid (HT.out.keep (fun g h1 h2 => hg2.block g h2 (fun e => by cases e; omega)) hg2.size)
      have HRD2 := Lib.hid hrd2
      have HG2 := Lib.hid ((BelowX.trans (BelowX.of_grown HMG.out (Nat.le_refl _)) (HX2.out.mono (by omega))).grown)
      have hrow := (HX2.out.2.2.2.2 w.heap.size (by omega) (by omega)).trans HBK.out
      have HRW2 := Lib.hid hrow
      obtain ⟨g, o, Ax, cx, rfl, hg, -, hcv, x0, x1, x2, x3, hax⟩ := HT2.out.first
      have HAX := Lib.hid hax
      have hsz2 : w.heap.size < w2.heap.size := by omega
      obtain ⟨n6, hn6⟩ : ∃ n6, n6 = w2.heap.size := ⟨_, rfl⟩
      obtain ⟨lt, hlt⟩ : ∃ lt, lt = leftT x l := ⟨_, rfl⟩
      have HLT := Lib.hid hlt
      have HN6 := Lib.hid hn6
      have hn7 : w.heap.size < n6 := by omega
      clear hrd2 hg2 HTK HT hrow hax hlt
      by_cases hl : l = []
      · have hE : lt = x := by rw [HLT.out]; unfold leftT; rw [if_pos hl]
        have hll : l.length = 0 := by rw [hl]; rfl
        clear hl
        go_upto_region 10 with fail
        obtain ⟨WL, hWL⟩ : ∃ WL, WL = w2.alloc (.cells #[.int .i64 x.kind, .int .i64 x.num, .string x.name, .slice Ax x.args.length cx] 24) := ⟨_, rfl⟩
        have HLA := Lib.hid (show LeftAt B r S ts w n6 lt i2 b2 WL by rw [hWL, hE, hn6]; exact left_at HRW2.out HAX.out HRD2.out HG2.out)
        have hsL : n6 < WL.heap.size := by rw [hWL, hn6]; simp
        rw [← hWL, ← hn6]
        clear hWL x0 x1 x2 x3 HAX hE hg hn6
        obtain ⟨AL, cL, hlb, hrow, hli, hrdL, hgL⟩ := HLA.out
        have HLB := Lib.hid hlb
        have HRW := Lib.hid hrow
        have HLI := Lib.hid hli
        have HRDL := Lib.hid hrdL
        have HGL := Lib.hid hgL
        have HEL := Lib.hid (HE0.out.on ((Below.refl B w).grown hgL (by omega) (fun g e => by cases e; exact hBr)))
        clear hlb hrow hli hrdL hgL HLA
        cases hz2 : isT S ⟨#[45, 62]⟩ (hereT ts i2)
        · have HTN := Lib.hid (take_no hz2 HRDL.out HNs.out HSs.out)
          have HRL := Lib.hid (show WholeR S ts (k + 1) i false (leftT x l) i2 b2 from ⟨x, i1, b1, l, i2, b2, HR1.out, HS.out, HZ.out, by rw [hz2]; exact ⟨rfl, rfl, rfl⟩⟩)
          rw [← HLT.out] at HRL
          clear hz2
          go_wp2_with fail
          refine HTN.out.mono ?_
          rintro e w5 ⟨rfl, hrd5, hg5⟩
          have hs5 := hg5.size
          have hrow0 := (hg5.block w.heap.size (by omega) (fun e => by cases e; omega)).trans HRW.out
          have hrow1 := (hg5.block n6 (by omega) (fun e => by cases e; omega)).trans HLB.out
          obtain ⟨⟨r0, r1, r2, r3⟩, fr0, fr1, fr2, fr3⟩ := row4 hrow0
          obtain ⟨⟨y0, y1, y2, y3⟩, -⟩ := row4 hrow1
          have HR0 := Lib.hid hrow0
          have HRD5 := Lib.hid hrd5
          have HLI5 := Lib.hid (show IsA w5 (New (w.heap.size + 1) w5) lt.args (.slice AL lt.args.length cL) from (HLI.out.same fun g h => hg5.block g h.2 (fun e => by cases e; have := h.1; omega)).weak fun g h => ⟨h.1, Nat.lt_of_lt_of_le h.2 hg5.size⟩)
          have HG5 := Lib.hid (HGL.out.trans hg5)
          have hz5 : w.heap.size < w5.heap.size := by omega
          have hz6 : n6 < w5.heap.size := by omega
          clear hrow0 hrow1 hrd5 hg5 HTN
          go_wp2_with fail
          refine bodyPost_ret (v := .agg #[.int .i64 lt.kind, .int .i64 lt.num, .string lt.name, .slice AL lt.args.length cL]) (results_cell_row rfl _ _ w.heap.size 24 #[.int .i64 lt.kind, .int .i64 lt.num, .string lt.name, .slice AL lt.args.length cL] (0, 0) _ rfl (put4_blk HR0.out _ _ _ _) Tryz.underlying24 rfl infoTy4) rfl ?_
          exact ⟨lt, i2, b2, AL, cL, HRL.out, rfl, new_put HLI5.out (by omega) (by omega) _ _ _ _, HL.out.2, rd_put HRD5.out HG5.out hr _ (Nat.le_refl _) _ _ _ _⟩
        · have HTN := Lib.hid (take_yes hz2 HRDL.out HNs.out HSs.out)
          have HRL := Lib.hid (show ∀ y j c, WholeR S ts k (i2 + 1) b2 y j c → WholeR S ts (k + 1) i false (.mk 4 0 ⟨#[]⟩ [leftT x l, y]) j c from fun y j c h => ⟨x, i1, b1, l, i2, b2, HR1.out, HS.out, HZ.out, by rw [hz2]; exact ⟨y, h, rfl⟩⟩)
          rw [← HLT.out] at HRL
          clear hz2
          go_wp2_with fail
          refine HTN.out.mono ?_
          rintro e w5 ⟨rfl, hrd5, hg5⟩
          have hs5 := hg5.size
          have hrow0 := (hg5.block w.heap.size (by omega) (fun e => by cases e; omega)).trans HRW.out
          have hrow1 := (hg5.block n6 (by omega) (fun e => by cases e; omega)).trans HLB.out
          obtain ⟨⟨y0, y1, y2, y3⟩, -⟩ := row4 hrow1
          have HR0 := Lib.hid hrow0
          have HR6 := Lib.hid hrow1
          have HLI5 := Lib.hid (show IsA w5 (New (w.heap.size + 1) w5) lt.args (.slice AL lt.args.length cL) from (HLI.out.same fun g h => hg5.block g h.2 (fun e => by cases e; have := h.1; omega)).weak fun g h => ⟨h.1, Nat.lt_of_lt_of_le h.2 hg5.size⟩)
          have HG5 := Lib.hid (HGL.out.trans hg5)
          have hz5 : w.heap.size < w5.heap.size := by omega
          have hz6 : n6 < w5.heap.size := by omega
          have HWC := Lib.hid (HWh.out (i2 + 1) b2 w5.drew (hrd5.below (drew1 w5)) ((HEL.out.on ((Below.refl B WL).grown hg5 (by omega) (fun g e => by cases e; exact hBr))).on ((drew1 w5).mono (by omega))))
          have HWB := Lib.hid (HWC.out.mono fun e w6 hp => back_post hr hz5 hn7 hz6 hrow0 hrow1 HLI5.out HG5.out hp)
          clear hrow0 hrow1 hrd5 hg5 HTN HWC
          go_wp2_with fail
          have hwr : IntKind.i64.wrap (d + 1) = d + 1 := IntWalk.i64_in _ (by omega)
          clear HT1 HR1 HRD1 HX1 HS HX HRD HNm HM HMG HMs HBK HT2 HX2 HRD2 HG2 HRW2 HZ HLB HRW HRDL HGL HEL HLI hat hs1 hMs hMw hs2 hsz2 hd0 hd2 hd3 hi1 hll HWh HEM HE0 HSs HNs HN6 HR0 HR6 HLI5 HG5
          go_region_law (first
            | (rw [if_pos (by simp [Region.wanted])]
               go_simp
               go_at_call 28
               with_reducible (refine HWB.out.mono ?_)
               rintro e w6 ⟨y, j, c, A7, c7, rfl, ⟨y0, y1, y2, y3⟩, ⟨⟨r0, r1, r2, r3⟩, fr0, fr1, fr2, fr3⟩, hz8, hz9, HPP⟩))
          all_goals
            clear HWB
            go_wp2_with fail
            obtain ⟨hRy, hij, h06, hli6, hy6, hrd6, hg6⟩ := HPP.out
            refine bodyPost_ret (v := .agg #[.int .i64 4, .int .i64 0, .string ⟨#[]⟩, .slice (some ⟨w6.heap.size, 0, none⟩) 2 2]) (results_cell_row rfl _ _ w.heap.size 24 #[.int .i64 4, .int .i64 0, .string ⟨#[]⟩, .slice (some ⟨w6.heap.size, 0, none⟩) 2 2] (0, 0) _ rfl (lit_on (put4_blk h06 _ _ _ _) _) Tryz.underlying24 rfl infoTy4) rfl ?_
            exact ⟨.mk 4 0 ⟨#[]⟩ [lt, y], j, c, some ⟨w6.heap.size, 0, none⟩, 2, HRL.out y j c hRy, rfl,
              (two_new (W := put4 w6 w.heap.size _ _ _ _) (B := w.heap.size + 1) (new_put hli6 (Nat.lt_succ_self _) (Nat.le_refl _) _ _ _ _) (new_put hy6 (Nat.lt_succ_self _) (Nat.le_refl _) _ _ _ _) (by rw [put4_size]; exact hz8) _ (by rw [put4_size])).weak fun g h => ⟨Nat.le_of_succ_le h.1, h.2⟩,
              Nat.le_trans (Nat.le_succ_of_le HL.out.2) hij, (hrd6.put hr _ _ _ _).below ((Below.refl _ _).alloc (Nat.le_refl _) _), (grow_put hg6 (Nat.le_refl _) _ _ _ _).trans (World.grownBy_alloc _ _ _)⟩
      · have hl1 : ¬ l.length + 1 = 1 := by
          have : l.length ≠ 0 := fun e => hl (List.eq_nil_of_length_eq_zero e)
          omega
        have hE : lt = .mk 3 0 ⟨#[]⟩ (x :: l) := by rw [HLT.out]; unfold leftT; rw [if_neg hl]
        obtain ⟨LN, hLN⟩ : ∃ LN, LN = l.length + 1 := ⟨_, rfl⟩
        have hll : ¬ LN = 1 := by omega
        have hlg : (1 : Int) < (LN : Int) := by omega
        have hIL : IsA w2 (New (w.heap.size + 1) w2) lt.args (.slice (some ⟨g, o, none⟩) lt.args.length cv) := by rw [hE]; exact HT2.out.isNew
        rw [List.length_cons, ← hLN] at hcv
        rw [show (x :: l).length = LN by rw [hLN]; rfl]
        have hlal : lt.args.length = LN := by rw [hE, hLN]; rfl
        clear hl hl1 hLN
        go_upto_region 10 with fail
        obtain ⟨WL, hWL⟩ : ∃ WL, WL = w2.alloc (.cells #[.int .i64 3, .int .i64 0, .string ⟨#[]⟩, .slice (some ⟨g, o, none⟩) LN cv] 24) := ⟨_, rfl⟩
        have HLA := Lib.hid (show LeftAt B r S ts w n6 lt i2 b2 WL by
          have := left_at HRW2.out hIL HRD2.out HG2.out
          rw [hlal] at this
          rw [hWL, hn6]
          rw [hE] at this ⊢
          exact this)
        have hsL : n6 < WL.heap.size := by rw [hWL, hn6]; simp
        rw [← hWL, ← hn6]
        clear hWL x0 x1 x2 x3 HAX hE hg hn6 hIL hlal hlg
        obtain ⟨AL, cL, hlb, hrow, hli, hrdL, hgL⟩ := HLA.out
        have HLB := Lib.hid hlb
        have HRW := Lib.hid hrow
        have HLI := Lib.hid hli
        have HRDL := Lib.hid hrdL
        have HGL := Lib.hid hgL
        have HEL := Lib.hid (HE0.out.on ((Below.refl B w).grown hgL (by omega) (fun g e => by cases e; exact hBr)))
        clear hlb hrow hli hrdL hgL HLA
        cases hz2 : isT S ⟨#[45, 62]⟩ (hereT ts i2)
        · have HTN := Lib.hid (take_no hz2 HRDL.out HNs.out HSs.out)
          have HRL := Lib.hid (show WholeR S ts (k + 1) i false (leftT x l) i2 b2 from ⟨x, i1, b1, l, i2, b2, HR1.out, HS.out, HZ.out, by rw [hz2]; exact ⟨rfl, rfl, rfl⟩⟩)
          rw [← HLT.out] at HRL
          clear hz2
          go_wp2_with fail
          refine HTN.out.mono ?_
          rintro e w5 ⟨rfl, hrd5, hg5⟩
          have hs5 := hg5.size
          have hrow0 := (hg5.block w.heap.size (by omega) (fun e => by cases e; omega)).trans HRW.out
          have hrow1 := (hg5.block n6 (by omega) (fun e => by cases e; omega)).trans HLB.out
          obtain ⟨⟨r0, r1, r2, r3⟩, fr0, fr1, fr2, fr3⟩ := row4 hrow0
          obtain ⟨⟨y0, y1, y2, y3⟩, -⟩ := row4 hrow1
          have HR0 := Lib.hid hrow0
          have HRD5 := Lib.hid hrd5
          have HLI5 := Lib.hid (show IsA w5 (New (w.heap.size + 1) w5) lt.args (.slice AL lt.args.length cL) from (HLI.out.same fun g h => hg5.block g h.2 (fun e => by cases e; have := h.1; omega)).weak fun g h => ⟨h.1, Nat.lt_of_lt_of_le h.2 hg5.size⟩)
          have HG5 := Lib.hid (HGL.out.trans hg5)
          have hz5 : w.heap.size < w5.heap.size := by omega
          have hz6 : n6 < w5.heap.size := by omega
          clear hrow0 hrow1 hrd5 hg5 HTN
          go_wp2_with fail
          refine bodyPost_ret (v := .agg #[.int .i64 lt.kind, .int .i64 lt.num, .string lt.name, .slice AL lt.args.length cL]) (results_cell_row rfl _ _ w.heap.size 24 #[.int .i64 lt.kind, .int .i64 lt.num, .string lt.name, .slice AL lt.args.length cL] (0, 0) _ rfl (put4_blk HR0.out _ _ _ _) Tryz.underlying24 rfl infoTy4) rfl ?_
          exact ⟨lt, i2, b2, AL, cL, HRL.out, rfl, new_put HLI5.out (by omega) (by omega) _ _ _ _, HL.out.2, rd_put HRD5.out HG5.out hr _ (Nat.le_refl _) _ _ _ _⟩
        · have HTN := Lib.hid (take_yes hz2 HRDL.out HNs.out HSs.out)
          have HRL := Lib.hid (show ∀ y j c, WholeR S ts k (i2 + 1) b2 y j c → WholeR S ts (k + 1) i false (.mk 4 0 ⟨#[]⟩ [leftT x l, y]) j c from fun y j c h => ⟨x, i1, b1, l, i2, b2, HR1.out, HS.out, HZ.out, by rw [hz2]; exact ⟨y, h, rfl⟩⟩)
          rw [← HLT.out] at HRL
          clear hz2
          go_wp2_with fail
          refine HTN.out.mono ?_
          rintro e w5 ⟨rfl, hrd5, hg5⟩
          have hs5 := hg5.size
          have hrow0 := (hg5.block w.heap.size (by omega) (fun e => by cases e; omega)).trans HRW.out
          have hrow1 := (hg5.block n6 (by omega) (fun e => by cases e; omega)).trans HLB.out
          obtain ⟨⟨y0, y1, y2, y3⟩, -⟩ := row4 hrow1
          have HR0 := Lib.hid hrow0
          have HR6 := Lib.hid hrow1
          have HLI5 := Lib.hid (show IsA w5 (New (w.heap.size + 1) w5) lt.args (.slice AL lt.args.length cL) from (HLI.out.same fun g h => hg5.block g h.2 (fun e => by cases e; have := h.1; omega)).weak fun g h => ⟨h.1, Nat.lt_of_lt_of_le h.2 hg5.size⟩)
          have HG5 := Lib.hid (HGL.out.trans hg5)
          have hz5 : w.heap.size < w5.heap.size := by omega
          have hz6 : n6 < w5.heap.size := by omega
          have HWC := Lib.hid (HWh.out (i2 + 1) b2 w5.drew (hrd5.below (drew1 w5)) ((HEL.out.on ((Below.refl B WL).grown hg5 (by omega) (fun g e => by cases e; exact hBr))).on ((drew1 w5).mono (by omega))))
          have HWB := Lib.hid (HWC.out.mono fun e w6 hp => back_post hr hz5 hn7 hz6 hrow0 hrow1 HLI5.out HG5.out hp)
          clear hrow0 hrow1 hrd5 hg5 HTN HWC
          go_wp2_with fail
          have hwr : IntKind.i64.wrap (d + 1) = d + 1 := IntWalk.i64_in _ (by omega)
          clear HT1 HR1 HRD1 HX1 HS HX HRD HNm HM HMG HMs HBK HT2 HX2 HRD2 HG2 HRW2 HZ HLB HRW HRDL HGL HEL HLI hat hs1 hMs hMw hs2 hsz2 hd0 hd2 hd3 hi1 hll HWh HEM HE0 HSs HNs HN6 HR0 HR6 HLI5 HG5
          go_region_law (first
            | (rw [if_pos (by simp [Region.wanted])]
               go_simp
               go_at_call 28
               with_reducible (refine HWB.out.mono ?_)
               rintro e w6 ⟨y, j, c, A7, c7, rfl, ⟨y0, y1, y2, y3⟩, ⟨⟨r0, r1, r2, r3⟩, fr0, fr1, fr2, fr3⟩, hz8, hz9, HPP⟩))
          all_goals
            clear HWB
            go_wp2_with fail
            obtain ⟨hRy, hij, h06, hli6, hy6, hrd6, hg6⟩ := HPP.out
            refine bodyPost_ret (v := .agg #[.int .i64 4, .int .i64 0, .string ⟨#[]⟩, .slice (some ⟨w6.heap.size, 0, none⟩) 2 2]) (results_cell_row rfl _ _ w.heap.size 24 #[.int .i64 4, .int .i64 0, .string ⟨#[]⟩, .slice (some ⟨w6.heap.size, 0, none⟩) 2 2] (0, 0) _ rfl (lit_on (put4_blk h06 _ _ _ _) _) Tryz.underlying24 rfl infoTy4) rfl ?_
            exact ⟨.mk 4 0 ⟨#[]⟩ [lt, y], j, c, some ⟨w6.heap.size, 0, none⟩, 2, HRL.out y j c hRy, rfl,
              (two_new (W := put4 w6 w.heap.size _ _ _ _) (B := w.heap.size + 1) (new_put hli6 (Nat.lt_succ_self _) (Nat.le_refl _) _ _ _ _) (new_put hy6 (Nat.lt_succ_self _) (Nat.le_refl _) _ _ _ _) (by rw [put4_size]; exact hz8) _ (by rw [put4_size])).weak fun g h => ⟨Nat.le_of_succ_le h.1, h.2⟩,
              Nat.le_trans (Nat.le_succ_of_le HL.out.2) hij, (hrd6.put hr _ _ _ _).below ((Below.refl _ _).alloc (Nat.le_refl _) _), (grow_put hg6 (Nat.le_refl _) _ _ _ _).trans (World.grownBy_alloc _ _ _)⟩
    · have HTK := Lib.hid (take_yes hz HRD.out HNs.out HSs.out)
      have HZ := Lib.hid hz
      have hlt := isT_lt hz
      clear hz
      go_wp2_with fail
      refine HTK.out.mono ?_
      rintro e w2 ⟨rfl, hrd2, hg2⟩
      have hs2 := hg2.size
      have HX2 := Lib.hid (HX.out.trans (BelowX.of_grown hg2 (by omega)))
      have HT2 := Lib.hid (HT.out.keep (fun g h1 h2 => hg2.block g h2 (fun e => by cases e; omega)) hg2.size)
      have HC2 := Lib.hid (HNm.out (i2 + 1) b2 w2 hrd2 (errs_x HEM.out HX2.out (by omega) hBr))
      clear hrd2 hg2 HTK HT
      go_wp2_with (first
        | (go_at_call 43
           refine HC2.out.mono ?_
           rintro e w3 ⟨y, i3, b3, A3, cp3, hR3, rfl, hy3, hi3, hp3⟩
           unfold tv
           obtain ⟨hrd3, hg3⟩ := hp3.out
           have hs3 := hg3.size
           obtain ⟨ps, -, ho, hnx⟩ := tys_round rfl HT2.out (fun g h1 h2 => hg3.block g h2 (fun e => by cases e; omega)) hg3.size (by omega) hy3.out
           have HO := Lib.hid ho
           have HNX := Lib.hid hnx
           have HPL := Lib.hid (ty_plain hy3.out)
           have HRD3 := Lib.hid hrd3
           have HX3 := Lib.hid (HX2.out.trans (BelowX.of_grown hg3 (by omega)))
           have hlen : (x :: l).length + 1 ≤ 2000000000 := by
             have h1 := HL.out.1
             have h2 := HNs.out
             simp
             omega
           have HR3 := Lib.hid hR3
           clear hrd3 hg3 ho hnx hy3 hp3 hR3)
        | (at_builtin
           refine wpList_append_own_at _ rfl _ _ 22 rfl (w.heap.size + 1) 24 i0 _ 4 56 Tryz.underlying22 hi hz0 hz1 hz2 rfl (by decide) _ _ _ rfl (HO.out.alloc _) ⟨w3.heap.size, 0, none⟩ 1 1 (tyCells y (.slice A3 y.args.length cp3)) rfl rfl (ty_news _ _ _ _) HPL.out (by unfold maxLen; omega) (by omega) (by simp; omega) ?_
           intro v' w4 hown hgrow hnil hloc
           have HST := Lib.hid (HNX.out v' w4 _ hown hgrow hloc)
           clear hown hgrow hnil hloc))
      have hrd4 : RdA B r S ts i3 b3 w4 := HRD3.out.keep fun k hk => HST.out.2.block k (by omega)
      have hat4 := hrd4.at
      refine ⟨⟨l ++ [y], i3, b3, HS.out.snoc HZ.out HR3.out, HST.out.1, hrd4, ⟨?_, ?_⟩, HX3.out.trans (BelowX.of_below HST.out.2)⟩, ?_⟩
      · have := HL.out.1
        rw [List.length_append, List.length_singleton]
        omega
      · have := HL.out.2
        omega
      · rw [hat4, hat]
        omega
theorem whole_any {B r : Nat} {S : ByteArray} {ts : List Lx.Tok} (hn : ts.length ≤ 1000000000) (hs : S.size ≤ 1000000000) (hT : TicksOk S ts) : ∀ k, k ≤ 301 → WholeAt B r S ts k := by
  intro k
  induction k with
  | zero => intro _; exact whole_zero B r S ts
  | succ k ih =>
    intro hk i b w d hd h hE
    cases b
    · exact whole_next k (by omega) (ih (by omega)) hn hs hT i w d (by omega) h hE
    · exact whole_wrong h (.inl rfl) (by simp [WholeR])
end Go.Proofs.YtmpmibebkflaiaaGreatDoor
