/- types' reader in memory; the contracts of its here, take and word. The contract of the reader's take. The contract of the reader's word. The contract of the reader's variable. What types' reader reads, as a relation; the contract of its bracket over that of whole. The contract of the reader's bracket over that of whole. -/
import Derived.Test.YtmpmibebkflaiaaGreatDoorTypShow
import Derived.Test.YtmpmibebkflaiaaGreatDoorTypX
import Derived.Test.YtmpmibebkflaiaaGreatDoorLexSa
import Derived.Test.YtmpmibebkflaiaaGreatDoorLexIs
import Derived.Deep.Cut
namespace Go.Proofs.YtmpmibebkflaiaaGreatDoor
open Go.RowKit Go.Lib Tp
set_option maxRecDepth 100000
set_option linter.unusedVariables false
set_option linter.unusedSectionVars false

/-- the reader in block r: a text, its tokens, a place, is anything wrong. -/
def RdA (B r : Nat) (S : ByteArray) (ts : List Lx.Tok) (i : Nat) (b : Bool) (w : World) : Prop :=
  ∃ A c, w.heap[r]? = some (.cells #[.string S, .slice A ts.length c, .int .i64 i, .bool b] 54) ∧ Rd w B 3 (.slice A ts.length c) ts.length (toksCells ts) ∧ B ≤ r ∧ i ≤ ts.length
theorem RdA.lt {B r : Nat} {S : ByteArray} {ts : List Lx.Tok} {i : Nat} {b : Bool} {w : World} (h : RdA B r S ts i b w) : r < w.heap.size := by
  obtain ⟨A, c, hb, -⟩ := h
  exact (Array.getElem?_eq_some_iff.1 hb).1
theorem RdA.below {B r : Nat} {S : ByteArray} {ts : List Lx.Tok} {i : Nat} {b : Bool} {w w' : World} (h : RdA B r S ts i b w) (hb : Below w.heap.size w w') : RdA B r S ts i b w' := by
  have hr := h.lt
  obtain ⟨A, c, hk, hrd, hB, hi⟩ := h
  exact ⟨A, c, (hb.block r hr).trans hk, hrd.below (hb.mono (by omega)), hB, hi⟩
/-- the token at a place; one of no kind at the end. -/
def hereT (ts : List Lx.Tok) (i : Nat) : Lx.Tok := (ts[i]?).getD ⟨0, 0, 0⟩
theorem infoTok : (Tryz.prog.info? 68).map (·.size) = some 3 := by kernel_rfl
/-- three cells stored behind one another. -/
def put3 (W : World) (g : Nat) (a b c : Value) : World := ((W.setCell ⟨g, 0, none⟩ a).setCell ⟨g, 1, none⟩ b).setCell ⟨g, 2, none⟩ c
theorem put3_blk {W : World} {g : Nat} {T : TypeId} {v0 v1 v2 : Value} (h : W.heap[g]? = some (.cells #[v0, v1, v2] T (0, 0))) (a b c : Value) : (put3 W g a b c).heap[g]? = some (.cells #[a, b, c] T (0, 0)) :=
  blk_set (blk_set (blk_set h a) b) c
theorem put3_below {B : Nat} {w W : World} (h : Below B w W) {g : Nat} (hg : B ≤ g) (a b c : Value) : Below B w (put3 W g a b c) :=
  ((h.setCell (p := ⟨g, 0, none⟩) hg _).setCell (p := ⟨g, 1, none⟩) hg _).setCell (p := ⟨g, 2, none⟩) hg _
theorem tok_out (w W : World) (nq : Nat) (hW : W = (w.alloc (.cells #[.int .i64 0, .int .i64 0, .int .i64 0] 68)).drewN nq) (a b c : Value) :
    (put3 W w.heap.size a b c).heap[w.heap.size]? = some (.cells #[a, b, c] 68 (0, 0)) ∧ Below w.heap.size w (put3 W w.heap.size a b c) := by
  subst hW
  exact ⟨put3_blk (heap_alloc_new w _) a b c, put3_below (below_drewN ((Below.refl _ w).alloc (Nat.le_refl _) _) nq) (Nat.le_refl _) a b c⟩
set_option maxHeartbeats 2000000 in
theorem here_any {B r : Nat} {S : ByteArray} {ts : List Lx.Tok} {i : Nat} {b : Bool} {w : World} (h : RdA B r S ts i b w) (hn : ts.length ≤ 1000000000) :
    Calls Tryz.prog 58 #[.pointer (some ⟨r, 0, none⟩)] w fun e w' => e = .returned (.agg #[.int .i64 (hereT ts i).kind, .int .i64 (hereT ts i).a, .int .i64 (hereT ts i).b]) ∧ Below w.heap.size w w' := by
  have hr := h.lt
  obtain ⟨A, c, hk, hrd, hB, hi⟩ := h
  obtain ⟨⟨q0, q1, q2, q3⟩, -⟩ := row4 hk
  obtain ⟨-, A', c', e, hc, hrow⟩ := hrd
  simp only [Value.slice.injEq] at e
  obtain ⟨rfl, -, rfl⟩ := e
  obtain ⟨n, hnn⟩ : ∃ n, n = ts.length := ⟨_, rfl⟩
  rw [← hnn] at hrow hc hi q1 hn
  by_cases hlt : i < n
  · obtain ⟨g, o, rfl, hg, hrow⟩ := hrow (by omega)
    obtain ⟨t, ht, c0, c1, c2⟩ := rd_tok hrow hnn hlt
    have HT := Lib.hid (show hereT ts i = t by unfold hereT; rw [ht]; rfl)
    clear hrow ht hk
    have hgl : g < w.heap.size := by omega
    go_enter Tryz.func58, Tryz.ntmps58
    go_wp2
    go_quiet (fail)
    go_wp2
    go_region_law (fail)
    all_goals
      go_wp2
      obtain ⟨hx, hy⟩ := tok_out w _ (nq + 1) rfl (.int .i64 t.kind) (.int .i64 t.a) (.int .i64 t.b)
      refine bodyPost_ret (v := .agg #[.int .i64 t.kind, .int .i64 t.a, .int .i64 t.b]) (results_cell_row rfl _ _ w.heap.size 68 #[.int .i64 t.kind, .int .i64 t.a, .int .i64 t.b] (0, 0) _ rfl hx Tryz.underlying68 rfl infoTok) rfl ?_
      rw [HT.out]
      exact ⟨rfl, hy⟩
  · have HT := Lib.hid (show hereT ts i = ⟨0, 0, 0⟩ by unfold hereT; rw [List.getElem?_eq_none (by omega)]; rfl)
    clear hrow hk
    go_enter Tryz.func58, Tryz.ntmps58
    go_wp2
    go_quiet (fail)
    go_wp2
    obtain ⟨hx, hy⟩ := tok_out w _ nq rfl (.int .i64 0) (.int .i64 0) (.int .i64 0)
    refine bodyPost_ret (v := .agg #[.int .i64 0, .int .i64 0, .int .i64 0]) (results_cell_row rfl _ _ w.heap.size 68 #[.int .i64 0, .int .i64 0, .int .i64 0] (0, 0) _ rfl hx Tryz.underlying68 rfl infoTok) rfl ?_
    rw [HT.out]
    exact ⟨rfl, hy⟩
end Go.Proofs.YtmpmibebkflaiaaGreatDoor
namespace Go.Proofs.YtmpmibebkflaiaaGreatDoor
open Go.RowKit Go.Lib Tp
set_option maxRecDepth 100000
set_option linter.unusedVariables false
set_option linter.unusedSectionVars false

/-- is a token this sign? -/
def isT (S z : ByteArray) (t : Lx.Tok) : Bool := (t.kind == 5 || t.kind == 6) && ((wordF S t.a t.b).toList == z.toList)
theorem isT_lt {S z : ByteArray} {ts : List Lx.Tok} {i : Nat} (h : isT S z (hereT ts i) = true) : i < ts.length := by
  refine Classical.byContradiction fun hn => ?_
  unfold hereT at h
  rw [List.getElem?_eq_none (by omega)] at h
  simp [isT] at h
theorem is_any (S z : ByteArray) (t : Lx.Tok) (W : World) (hs : S.size ≤ 9223372036854775807) :
    Calls Tryz.prog 62 #[.string S, .agg #[.int .i64 t.kind, .int .i64 t.a, .int .i64 t.b], .string z] W fun e w' => e = .returned (.bool (isT S z t)) ∧ Below W.heap.size W w' := by
  by_cases h : t.kind = 5 ∨ t.kind = 6
  · rw [show isT S z t = ((wordF S t.a t.b).toList == z.toList) by
      unfold isT
      rcases h with h | h <;> simp [h]]
    exact is_yes S t.kind t.a t.b z W hs (by omega)
  · rw [show isT S z t = false by
      unfold isT
      rw [show (t.kind == 5) = false by simp; omega, show (t.kind == 6) = false by simp; omega]
      rfl]
    exact is_no S t.kind t.a t.b z W hs (by omega) (by omega)
theorem RdA.step {B r : Nat} {S : ByteArray} {ts : List Lx.Tok} {i : Nat} {b : Bool} {W : World} (h : RdA B r S ts i b W) (hi : i < ts.length) : RdA B r S ts (i + 1) b (W.setCell ⟨r, 2, none⟩ (.int .i64 ((i : Int) + 1))) := by
  obtain ⟨A, c, hk, hrd, hB, -⟩ := h
  exact ⟨A, c, blk_set hk _, hrd.keep fun p hp => World.cell?_of_block (w := W) (Below.heap_setCell _ _ _ _ (fun e => by simp at e; omega)), hB, hi⟩
theorem RdA.wrong {B r : Nat} {S : ByteArray} {ts : List Lx.Tok} {i : Nat} {b : Bool} {W : World} (h : RdA B r S ts i b W) (b' : Bool) : RdA B r S ts i b' (W.setCell ⟨r, 3, none⟩ (.bool b')) := by
  obtain ⟨A, c, hk, hrd, hB, hi⟩ := h
  exact ⟨A, c, blk_set hk _, hrd.keep fun p hp => World.cell?_of_block (w := W) (Below.heap_setCell _ _ _ _ (fun e => by simp at e; omega)), hB, hi⟩
theorem grownBy_set {W : World} {r k : Nat} (v : Value) : W.grownBy (W.setCell ⟨r, k, none⟩ v) (some r) := ⟨rfl, rfl, rfl, by simp [World.setCell], fun j _ hne => Below.heap_setCell _ _ _ _ (fun e => hne (by rw [e]))⟩
theorem grown_of {w w' : World} (h : Below w.heap.size w w') (r : Nat) : w.grownBy w' (some r) := ⟨h.os, h.tape, h.output, h.size, fun k hk _ => h.block k hk⟩
/-- what a reader's method leaves. -/
def RdPost (B r : Nat) (S : ByteArray) (ts : List Lx.Tok) (i : Nat) (b : Bool) (w w' : World) : Prop := RdA B r S ts i b w' ∧ w.grownBy w' (some r)
set_option maxHeartbeats 2000000 in
theorem take_any {B r : Nat} {S : ByteArray} {ts : List Lx.Tok} {i : Nat} {b : Bool} {w : World} (z : ByteArray) (h : RdA B r S ts i b w) (hn : ts.length ≤ 1000000000) (hs : S.size ≤ 9223372036854775807) :
    Calls Tryz.prog 44 #[.pointer (some ⟨r, 0, none⟩), .string z] w fun e w' => e = .returned (.bool (isT S z (hereT ts i))) ∧ RdPost B r S ts (if isT S z (hereT ts i) then i + 1 else i) b w w' := by
  have hr := h.lt
  obtain ⟨A, c, hk, -⟩ := id h
  obtain ⟨⟨q0, q1, q2, q3⟩, -⟩ := row4 hk
  have HH := Lib.hid (fun W (hb : Below w.heap.size w W) => here_any (h.below hb) hn)
  have HI := Lib.hid (fun W => is_any S z (hereT ts i) W hs)
  have HR := Lib.hid h
  have hbd : ∀ n, Below w.heap.size w (w.drewN n) := fun n => below_drewN (Below.refl _ w) n
  have HBD := Lib.hid hbd
  obtain ⟨t, ht⟩ : ∃ t, t = hereT ts i := ⟨_, rfl⟩
  rw [← ht] at HH HI ⊢
  cases hb : isT S z t
  · rw [hb] at HI
    clear h hk hbd ht hb
    go_enter Tryz.func44, Tryz.ntmps44
    go_wp2
    go_region_law (first
      | (rw [if_pos (by simp [Region.wanted])]
         go_simp
         go_at_call 58
         refine (HH.out _ (by first | exact HBD.out 1 | exact HBD.out 2)).mono ?_
         rintro e w1 ⟨rfl, hb1⟩
         have hb1 : Below w.heap.size w w1 := (HBD.out 1).trans hb1
         have HB1 := Lib.hid hb1
         obtain ⟨A1, c1, hk1, -⟩ := HR.out.below hb1
         obtain ⟨⟨q0, q1, q2, q3⟩, -⟩ := row4 hk1
         clear hb1 hk1)
      | (rw [if_pos (by simp [Region.wanted])]
         go_simp
         go_at_call 62
         refine (HI.out _).mono ?_
         rintro e w2 ⟨rfl, hb2⟩
         have hb2 : Below w1.heap.size w1 w2 := hb2
         have HB2 := Lib.hid (HB1.out.trans (hb2.mono HB1.out.size))
         clear hb2))
    all_goals
      go_wp2
      go_ret
      exact ⟨rfl, HR.out.below HB2.out, grown_of HB2.out r⟩
  · rw [hb] at HI
    have HLT := Lib.hid (isT_lt (ht ▸ hb))
    clear h hk hbd ht hb
    go_enter Tryz.func44, Tryz.ntmps44
    go_wp2
    go_region_law (first
      | (rw [if_pos (by simp [Region.wanted])]
         go_simp
         go_at_call 58
         refine (HH.out _ (by first | exact HBD.out 1 | exact HBD.out 2)).mono ?_
         rintro e w1 ⟨rfl, hb1⟩
         have hb1 : Below w.heap.size w w1 := (HBD.out 1).trans hb1
         have HB1 := Lib.hid hb1
         obtain ⟨A1, c1, hk1, -⟩ := HR.out.below hb1
         obtain ⟨⟨q0, q1, q2, q3⟩, -⟩ := row4 hk1
         clear hb1 hk1)
      | (rw [if_pos (by simp [Region.wanted])]
         go_simp
         go_at_call 62
         refine (HI.out _).mono ?_
         rintro e w2 ⟨rfl, hb2⟩
         have hb2 : Below w1.heap.size w1 w2 := hb2
         have HB2 := Lib.hid (HB1.out.trans (hb2.mono HB1.out.size))
         obtain ⟨A2, c2, hk2, -⟩ := HR.out.below HB2.out
         obtain ⟨⟨p0, p1, p2, p3⟩, f0, f1, f2, f3⟩ := row4 hk2
         clear hb2 hk2))
    all_goals
      have hi2 : i < 1000000000 := by have := HLT.out; omega
      clear HH HI hs hn
      go_wp2
      go_ret
      exact ⟨rfl, (HR.out.below HB2.out).step HLT.out, (grown_of HB2.out r).trans (grownBy_set _)⟩
end Go.Proofs.YtmpmibebkflaiaaGreatDoor
namespace Go.Proofs.YtmpmibebkflaiaaGreatDoor
open Go.RowKit Go.Lib Tp
set_option maxRecDepth 100000
set_option linter.unusedVariables false
set_option linter.unusedSectionVars false

theorem here_lt {ts : List Lx.Tok} {i : Nat} (h : (hereT ts i).kind ≠ 0) : i < ts.length := by
  refine Classical.byContradiction fun hn => h ?_
  unfold hereT
  rw [List.getElem?_eq_none (by omega)]
  rfl
theorem wordAt_any (S : ByteArray) (t : Lx.Tok) (W : World) (hs : S.size ≤ 9223372036854775807) :
    Calls Tryz.prog 72 #[.string S, .agg #[.int .i64 t.kind, .int .i64 t.a, .int .i64 t.b]] W fun e w' => e = .returned (.string (wordF S t.a t.b)) ∧ Below W.heap.size W w' :=
  (word_any S t.kind t.a t.b W hs).mono fun e w' h => ⟨h.1, by rw [← h.2]; exact (Below.refl _ _).alloc (Nat.le_refl _) _⟩
theorem tok3 {W : World} {b : Nat} {x0 x1 x2 : Value} {e : TypeId} (h : W.heap[b]? = some (.cells #[x0, x1, x2] e)) : W.cell? ⟨b, 0, none⟩ = some x0 ∧ W.cell? ⟨b, 1, none⟩ = some x1 ∧ W.cell? ⟨b, 2, none⟩ = some x2 := by
  simp only [World.cell?, h]
  exact ⟨rfl, rfl, rfl⟩
set_option maxHeartbeats 2000000 in
theorem word_yes {B r : Nat} {S : ByteArray} {ts : List Lx.Tok} {i : Nat} {b : Bool} {w : World} (K : Nat) (h : RdA B r S ts i b w) (hn : ts.length ≤ 1000000000) (hs : S.size ≤ 9223372036854775807) (hK : (hereT ts i).kind = K) (hK0 : K ≠ 0) :
    Calls Tryz.prog 60 #[.pointer (some ⟨r, 0, none⟩), .int .i64 K] w fun e w' => e = .returned (.string (wordF S (hereT ts i).a (hereT ts i).b)) ∧ RdPost B r S ts (i + 1) b w w' := by
  have hr := h.lt
  have hlt := here_lt (hK ▸ hK0)
  have HH := Lib.hid (fun W (hb : Below w.heap.size w W) => here_any (h.below hb) hn)
  have HI := Lib.hid (fun W => wordAt_any S (hereT ts i) W hs)
  have HR := Lib.hid h
  obtain ⟨t, ht⟩ : ∃ t, t = hereT ts i := ⟨_, rfl⟩
  rw [← ht] at HH HI hK ⊢
  subst hK
  have HLT := Lib.hid hlt
  have hi2 : i < 1000000000 := by omega
  have hknn : ((t.kind : Int) != (t.kind : Int)) = false := by simp
  clear h ht hlt hs hn hK0
  go_enter Tryz.func60, Tryz.ntmps60
  go_wp2_with fail
  refine (HH.out w (Below.refl _ _)).mono ?_
  rintro e w1 ⟨rfl, hb1⟩
  have hs1 := hb1.size
  have HB1 := Lib.hid hb1
  have hR1 := HR.out.below hb1
  obtain ⟨A1, c1, hk1, -⟩ := id hR1
  obtain ⟨⟨q0, q1, q2, q3⟩, f0, f1, f2, f3⟩ := row4 hk1
  have HR1 := Lib.hid hR1
  have hr1 : r < w1.heap.size := hR1.lt
  clear hb1 hR1 hk1
  go_wp2_with fail
  obtain ⟨M, hM⟩ : ∃ M, M = (w1.setCell ⟨r, 2, none⟩ (.int .i64 ((i : Int) + 1))).alloc (.cells #[.int .i64 t.kind, .int .i64 t.a, .int .i64 t.b] 68) := ⟨_, rfl⟩
  have hsz0 : (w1.setCell ⟨r, 2, none⟩ (.int .i64 ((i : Int) + 1))).heap.size = w1.heap.size := by simp [World.setCell]
  have hRM : RdA B r S ts (i + 1) b M := by
    rw [hM]
    exact (HR1.out.step HLT.out).below ((Below.refl _ _).alloc (Nat.le_refl _) _)
  have hbk : M.heap[w1.heap.size]? = some (.cells #[.int .i64 t.kind, .int .i64 t.a, .int .i64 t.b] 68) := by
    rw [hM]
    exact obj_new _ _ _ hsz0.symm
  have hMg : w.grownBy M (some r) := by
    rw [hM]
    exact ((grown_of HB1.out r).trans (grownBy_set _)).trans (World.grownBy_alloc _ _ _)
  rw [← hM]
  obtain ⟨x0, x1, x2⟩ := tok3 hbk
  obtain ⟨A2, c2, hk2, -⟩ := id hRM
  obtain ⟨⟨p0, p1, p2, p3⟩, -⟩ := row4 hk2
  have HRM := Lib.hid hRM
  have HMG := Lib.hid hMg
  clear hM hRM hbk hMg hk2 hsz0 q0 q1 q2 q3 f0 f1 f2 f3
  go_region_law (first
    | (rw [if_pos (by simp [Region.wanted])]
       go_simp
       go_at_call 72
       refine (HI.out _).mono ?_
       rintro e w2 ⟨rfl, hb2⟩
       have HB2 := Lib.hid ((below_drewN (Below.refl _ M) 1).trans hb2)
       clear hb2))
  all_goals
    go_wp2
    go_ret
    exact ⟨rfl, HRM.out.below HB2.out, HMG.out.trans (grown_of HB2.out r)⟩
set_option maxHeartbeats 2000000 in
theorem word_no {B r : Nat} {S : ByteArray} {ts : List Lx.Tok} {i : Nat} {b : Bool} {w : World} (K : Nat) (h : RdA B r S ts i b w) (hn : ts.length ≤ 1000000000) (hs : S.size ≤ 9223372036854775807) (hK : (hereT ts i).kind ≠ K) :
    Calls Tryz.prog 60 #[.pointer (some ⟨r, 0, none⟩), .int .i64 K] w fun e w' => e = .returned (.string ⟨#[]⟩) ∧ RdPost B r S ts i true w w' := by
  have hr := h.lt
  have HH := Lib.hid (here_any h hn)
  have HR := Lib.hid h
  obtain ⟨t, ht⟩ : ∃ t, t = hereT ts i := ⟨_, rfl⟩
  rw [← ht] at HH hK
  have hknn : ((t.kind : Int) != (K : Int)) = true := by simp; omega
  have hkn2 : ¬ (t.kind : Int) = (K : Int) := by omega
  clear h ht hs hn hK
  go_enter Tryz.func60, Tryz.ntmps60
  go_wp2_with fail
  refine HH.out.mono ?_
  rintro e w1 ⟨rfl, hb1⟩
  have HB1 := Lib.hid hb1
  have hR1 := HR.out.below hb1
  obtain ⟨A1, c1, hk1, -⟩ := id hR1
  obtain ⟨⟨q0, q1, q2, q3⟩, f0, f1, f2, f3⟩ := row4 hk1
  have HR1 := Lib.hid hR1
  have hr1 : r < w1.heap.size := hR1.lt
  clear hb1 hR1 hk1
  go_wp2_with fail
  go_ret
  exact ⟨rfl, (HR1.out.wrong true).below ((Below.refl _ _).alloc (Nat.le_refl _) _), ((grown_of HB1.out r).trans (grownBy_set _)).trans (World.grownBy_alloc _ _ _)⟩
end Go.Proofs.YtmpmibebkflaiaaGreatDoor
namespace Go.Proofs.YtmpmibebkflaiaaGreatDoor
open Go.RowKit Go.Lib Go.Shelf Go.Sort Tp
set_option maxRecDepth 100000
set_option linter.unusedVariables false
set_option linter.unusedSectionVars false

/-- a word that a variable's token may have. -/
def TickOk (W : ByteArray) : Prop := ∃ c rest, W.data.toList = 39 :: c :: rest ∧ 97 ≤ c.toNat ∧ c.toNat ≤ 122 ∧ ∀ v, Lib.atoiAll rest = .ok v → 0 ≤ v
/-- the number of a variable's word. -/
def varN (l : List UInt8) : Option Int :=
  match l with
  | _ :: c :: rest => if rest = [] then some (c.toNat - 97) else (match Lib.atoiAll rest with | .ok v => if v < 1073741824 then some (c.toNat - 97 + v * 26) else none | _ => none)
  | _ => none
def zeroT : Ty := .mk 0 0 ⟨#[]⟩ []
theorem RdA.keep {B r : Nat} {S : ByteArray} {ts : List Lx.Tok} {i : Nat} {b : Bool} {w w' : World} (h : RdA B r S ts i b w) (hb : ∀ k, k ≤ r → w'.heap[k]? = w.heap[k]?) : RdA B r S ts i b w' := by
  obtain ⟨A, c, hk, hrd, hB, hi⟩ := h
  exact ⟨A, c, (hb r (Nat.le_refl _)).trans hk, hrd.keep fun p hp => World.cell?_of_block (w := w) (hb p.block (by omega)), hB, hi⟩
theorem rd_put {B r : Nat} {S : ByteArray} {ts : List Lx.Tok} {i : Nat} {b : Bool} {w w1 : World} (hR : RdA B r S ts i b w1) (hg : w.grownBy w1 (some r)) (hr : r < w.heap.size) (g : Nat) (hg0 : w.heap.size ≤ g) (x0 x1 x2 x3 : Value) : RdPost B r S ts i b w (put4 w1 g x0 x1 x2 x3) :=
  ⟨hR.keep fun k hk => put4_other (by omega) _ _ _ _, hg.os, hg.tape, hg.output, by rw [put4_size]; exact hg.size, fun k hk hne => (put4_other (by omega) _ _ _ _).trans (hg.block k hk hne)⟩
theorem tick_get {W : ByteArray} {c : UInt8} {rest : List UInt8} (h : W.data.toList = 39 :: c :: rest) (h1 : 1 < W.size) : W[1] = c ∧ W.size = rest.length + 2 ∧ (W.extract 2 W.size).data.toList = rest := by
  obtain ⟨⟨l⟩⟩ := W
  simp only at h
  subst h
  refine ⟨rfl, by simp [ByteArray.size], ?_⟩
  rw [ByteArray.data_extract]
  simp [ByteArray.size]
/-- where the error variables of strconv lie. -/
def ErrsB (B : Nat) (w : World) : Prop := Tryz.laysC172_ren.g 15 < B ∧ Tryz.laysC172_ren.g 16 < B ∧ ∃ e1 e2, w.cell? ⟨Tryz.laysC172_ren.g 15, 0, none⟩ = some e1 ∧ (e1 = .nilIface ∨ ∃ te pe, e1 = .iface te pe) ∧ w.cell? ⟨Tryz.laysC172_ren.g 16, 0, none⟩ = some e2 ∧ (e2 = .nilIface ∨ ∃ te pe, e2 = .iface te pe)
theorem ErrsB.on {B : Nat} {w w' : World} (h : ErrsB B w) (hb : Below B w w') : ErrsB B w' := by
  obtain ⟨h1, h2, e1, e2, c1, f1, c2, f2⟩ := h
  exact ⟨h1, h2, e1, e2, (hb.cell h1).trans c1, f1, (hb.cell h2).trans c2, f2⟩
theorem atoi_ok {W : ByteArray} (hs : W.size ≤ 1000000000) {v : Int} (h : Lib.atoiAll W.data.toList = .ok v) (w : World) :
    Calls Tryz.prog 71 #[.string W] w fun e w' => e = .returned (.tuple #[.int .i64 v, .nilIface]) ∧ Below w.heap.size w w' :=
  (Any.strconv_Atoi_ok Tryz.laysC172 W (by omega) v h w).mono fun e w' ⟨h1, h2⟩ => ⟨h1, by
    rcases h2 with rfl | ⟨t, rfl⟩
    · exact Below.refl _ _
    · exact Go.Joins.below_bytesWorld _ _ _ _ (Nat.le_refl _)⟩
theorem atoi_bad {W : ByteArray} (hs : W.size ≤ 1000000000) (h : ∀ v, Lib.atoiAll W.data.toList ≠ .ok v) (w : World) {B : Nat} (he : ErrsB B w) :
    Calls Tryz.prog 71 #[.string W] w fun e w' => (∃ k te N, e = .returned (.tuple #[.int .i64 k, .iface te (.pointer (some ⟨N, 0, none⟩))])) ∧ Below w.heap.size w w' := by
  obtain ⟨-, -, e1, e2, c1, f1, c2, f2⟩ := he
  cases hc : Lib.atoiAll W.data.toList with
  | ok v => exact absurd hc (h v)
  | range => exact (Any.strconv_Atoi_range Tryz.laysC172 W (by omega) hc e2 w c2 f2).mono fun e w' ⟨N, h1, _, _, h2⟩ => ⟨⟨_, _, N, h1⟩, h2⟩
  | _ => exact (Any.strconv_Atoi_syntax Tryz.laysC172 W (by omega) hc e1 w c1 f1).mono fun e w' ⟨N, h1, _, _, h2⟩ => ⟨⟨_, _, N, h1⟩, h2⟩
/-- what variable answers. -/
def VarPost (B r : Nat) (S : ByteArray) (ts : List Lx.Tok) (i : Nat) (b : Bool) (w : World) (l : List UInt8) (e : Ending) (w' : World) : Prop :=
  match varN l with
  | some n => e = .returned (.agg #[.int .i64 1, .int .i64 n, .string ⟨#[]⟩, .slice none 0 0]) ∧ RdPost B r S ts (i + 1) b w w'
  | none => e = .returned (.agg #[.int .i64 0, .int .i64 0, .string ⟨#[]⟩, .slice none 0 0]) ∧ RdPost B r S ts (i + 1) true w w'
set_option maxHeartbeats 4000000 in
theorem variable_any {B r : Nat} {S : ByteArray} {ts : List Lx.Tok} {i : Nat} {b : Bool} {w : World} (h : RdA B r S ts i b w) (hn : ts.length ≤ 1000000000) (hs : S.size ≤ 1000000000) (hK : (hereT ts i).kind = 4) (W : ByteArray) (hWs : W.size ≤ 1000000000)
    (hW : wordF S (hereT ts i).a (hereT ts i).b = W) (hT : TickOk W) (hE : ErrsB B w) :
    Calls Tryz.prog 59 #[.pointer (some ⟨r, 0, none⟩)] w (VarPost B r S ts i b w W.data.toList) := by
  obtain ⟨c, rest, hl, hc1, hc2, hv0⟩ := hT
  have hsz : 1 < W.size := by
    have : W.data.toList.length = W.size := by simp
    rw [hl] at this
    simp at this
    omega
  obtain ⟨hg1, hg2, hg3⟩ := tick_get hl hsz
  obtain ⟨M, hM⟩ : ∃ M, M = w.alloc (.cells #[.int .i64 0, .int .i64 0, .string ⟨#[]⟩, .slice none 0 0] 24) := ⟨_, rfl⟩
  have hMb : Below w.heap.size w M := by rw [hM]; exact (Below.refl _ _).alloc (Nat.le_refl _) _
  have hMs : M.heap.size = w.heap.size + 1 := by rw [hM]; simp
  have hbk : M.heap[w.heap.size]? = some (.cells #[.int .i64 0, .int .i64 0, .string ⟨#[]⟩, .slice none 0 0] 24) := by rw [hM]; exact heap_alloc_new w _
  have hw := word_yes 4 (h.below hMb) hn (by omega) hK (by omega)
  rw [hW] at hw
  have HW := Lib.hid hw
  have HM := Lib.hid hM
  have HBK := Lib.hid hbk
  have HMB := Lib.hid hMb
  have hr := h.lt
  have hB : B ≤ r := by obtain ⟨_, _, _, _, hB, _⟩ := h; exact hB
  have HX := Lib.hid (show (((W[1]).toNat : Int) - 97) % 256 = (c.toNat : Int) - 97 by rw [hg1]; omega)
  have HMs := Lib.hid hMs
  have HG3 := Lib.hid hg3
  have HV := Lib.hid (show varN W.data.toList = if rest = [] then some ((c.toNat : Int) - 97) else (match Lib.atoiAll rest with | .ok v => if v < 1073741824 then some (c.toNat - 97 + v * 26) else none | _ => none) by rw [hl]; rfl)
  have HE := Lib.hid (fun W' (hb : w.grownBy W' (some r)) => hE.on ((Below.refl B w).grown hb (by omega) (fun g e => by cases e; exact hB)))
  clear hw hM hbk hMb hW hK hn hs h hg1 hg3 hl hMs hE
  by_cases hr0 : rest = []
  · have HV2 := Lib.hid (HV.out.trans (if_pos hr0))
    have hsz2 : W.size = 2 := by rw [hg2, hr0]; rfl
    clear hg2 hr0
    unfold VarPost
    rw [HV2.out]
    go_enter Tryz.func59, Tryz.ntmps59
    go_wp2_with fail
    rw [← HM.out]
    refine HW.out.mono ?_
    rintro e w1 ⟨rfl, hR1, hg1⟩
    have hrow := (hg1.block w.heap.size (by have := HMs.out; omega) (fun e => by cases e; omega)).trans HBK.out
    have hs1 := hg1.size
    obtain ⟨⟨r0, r1, r2, r3⟩, fr0, fr1, fr2, fr3⟩ := row4 hrow
    have HRW := Lib.hid hrow
    have HR1 := Lib.hid hR1
    have HG := Lib.hid ((grown_of HMB.out r).trans hg1)
    have hsz1 : w.heap.size < w1.heap.size := by have := HMs.out; omega
    clear hrow hR1 hg1
    go_wp2_with fail
    refine bodyPost_ret (v := .agg #[.int .i64 1, .int .i64 ((((W[1]).toNat : Int) - 97) % 256), .string ⟨#[]⟩, .slice none 0 0]) (results_cell_row rfl _ _ w.heap.size 24 #[.int .i64 1, .int .i64 ((((W[1]).toNat : Int) - 97) % 256), .string ⟨#[]⟩, .slice none 0 0] (0, 0) _ rfl (put4_blk HRW.out _ _ _ _) Tryz.underlying24 rfl infoTy4) rfl ?_
    exact ⟨by rw [HX.out], rd_put HR1.out HG.out hr _ (Nat.le_refl _) _ _ _ _⟩
  · have HV2 := Lib.hid (HV.out.trans (if_neg hr0))
    have hsz2 : 2 < W.size := by
      have : rest.length ≠ 0 := fun h => hr0 (List.eq_nil_of_length_eq_zero h)
      omega
    clear hr0 HV
    by_cases hok : ∃ v, Lib.atoiAll rest = .ok v
    · obtain ⟨v, hv⟩ := hok
      have hv1 := hv0 v hv
      have HA := Lib.hid (fun W' => atoi_ok (W := W.extract 2 W.size) (by simp; omega) (v := v) (by rw [HG3.out]; exact hv) W')
      have HV3 := Lib.hid (show varN W.data.toList = if v < 1073741824 then some ((c.toNat : Int) - 97 + v * 26) else none by rw [HV2.out, hv])
      clear hv hv0 hg2 HV2 HE
      by_cases hv2 : v < 1073741824
      · have HV4 := Lib.hid (HV3.out.trans (if_pos hv2))
        have hvc : ¬ (1073741824 : Int) ≤ v := by omega
        unfold VarPost
        rw [HV4.out]
        clear HV3
        have hxr : (((W[1]).toNat : Int) - 97) % 256 ≤ 255 := by omega
        have hxr0 : 0 ≤ (((W[1]).toNat : Int) - 97) % 256 := by omega
        have HX2 := Lib.hid (show (((W[1]).toNat : Int) - 97) % 256 + v * 26 = (c.toNat : Int) - 97 + v * 26 by rw [HX.out])
        go_enter Tryz.func59, Tryz.ntmps59
        go_wp2_with fail
        rw [← HM.out]
        refine HW.out.mono ?_
        rintro e w1 ⟨rfl, hR1, hg1⟩
        have hrow := (hg1.block w.heap.size (by have := HMs.out; omega) (fun e => by cases e; omega)).trans HBK.out
        have hs1 := hg1.size
        have HRW1 := Lib.hid hrow
        have HR1 := Lib.hid hR1
        have HG := Lib.hid ((grown_of HMB.out r).trans hg1)
        have hsz1 : w.heap.size < w1.heap.size := by have := HMs.out; omega
        clear hrow hR1 hg1
        go_wp2_with fail
        refine (HA.out w1).mono ?_
        rintro e w2 ⟨rfl, hb2⟩
        have hrow := (hb2.block w.heap.size hsz1).trans HRW1.out
        obtain ⟨⟨r0, r1, r2, r3⟩, fr0, fr1, fr2, fr3⟩ := row4 hrow
        have hsz2 := hb2.size
        have hsz3 : w.heap.size < w2.heap.size := by omega
        have HRW := Lib.hid hrow
        have HR2 := Lib.hid (HR1.out.below hb2)
        have HG2 := Lib.hid (HG.out.trans (grown_of hb2 r))
        clear hrow hb2
        go_wp2_with fail
        refine bodyPost_ret (v := .agg #[.int .i64 1, .int .i64 ((((W[1]).toNat : Int) - 97) % 256 + v * 26), .string ⟨#[]⟩, .slice none 0 0]) (results_cell_row rfl _ _ w.heap.size 24 #[.int .i64 1, .int .i64 ((((W[1]).toNat : Int) - 97) % 256 + v * 26), .string ⟨#[]⟩, .slice none 0 0] (0, 0) _ rfl (put4_blk HRW.out _ _ _ _) Tryz.underlying24 rfl infoTy4) rfl ?_
        exact ⟨by rw [HX2.out], rd_put HR2.out HG2.out hr _ (Nat.le_refl _) _ _ _ _⟩
      · have HV4 := Lib.hid (HV3.out.trans (if_neg hv2))
        have hvc : (1073741824 : Int) ≤ v := by omega
        unfold VarPost
        rw [HV4.out]
        clear HV3
        have hxr : (((W[1]).toNat : Int) - 97) % 256 ≤ 255 := by omega
        have hxr0 : 0 ≤ (((W[1]).toNat : Int) - 97) % 256 := by omega
        go_enter Tryz.func59, Tryz.ntmps59
        go_wp2_with fail
        rw [← HM.out]
        refine HW.out.mono ?_
        rintro e w1 ⟨rfl, hR1, hg1⟩
        have hrow := (hg1.block w.heap.size (by have := HMs.out; omega) (fun e => by cases e; omega)).trans HBK.out
        have hs1 := hg1.size
        have HRW1 := Lib.hid hrow
        have HR1 := Lib.hid hR1
        have HG := Lib.hid ((grown_of HMB.out r).trans hg1)
        have hsz1 : w.heap.size < w1.heap.size := by have := HMs.out; omega
        clear hrow hR1 hg1
        go_wp2_with fail
        refine (HA.out w1).mono ?_
        rintro e w2 ⟨rfl, hb2⟩
        have hrow := (hb2.block w.heap.size hsz1).trans HRW1.out
        obtain ⟨⟨r0, r1, r2, r3⟩, fr0, fr1, fr2, fr3⟩ := row4 hrow
        obtain ⟨A3, c3, hk3, -⟩ := HR1.out.below hb2
        obtain ⟨⟨q0, q1, q2, q3⟩, f0, f1, f2, f3⟩ := row4 hk3
        have hr2 : r < w2.heap.size := (HR1.out.below hb2).lt
        have hsz2 := hb2.size
        have hsz3 : w.heap.size < w2.heap.size := by omega
        have HRW := Lib.hid hrow
        have HR2 := Lib.hid (HR1.out.below hb2)
        have HG2 := Lib.hid (HG.out.trans (grown_of hb2 r))
        clear hrow hb2 hk3
        go_wp2_with fail
        have hne : w.heap.size ≠ r := by omega
        refine bodyPost_ret (v := .agg #[.int .i64 0, .int .i64 0, .string ⟨#[]⟩, .slice none 0 0]) (results_cell_row rfl _ _ w.heap.size 24 #[.int .i64 0, .int .i64 0, .string ⟨#[]⟩, .slice none 0 0] (0, 0) _ rfl (put4_blk (blk_other (a := ⟨r, 3, none⟩) HRW.out hne) _ _ _ _) Tryz.underlying24 rfl infoTy4) rfl ?_
        exact ⟨rfl, rd_put (HR2.out.wrong true) (HG2.out.trans (grownBy_set _)) hr _ (Nat.le_refl _) _ _ _ _⟩
    · have hnv : ∀ v, Lib.atoiAll (W.extract 2 W.size).data.toList ≠ .ok v := fun v hv => hok ⟨v, by rw [← HG3.out]; exact hv⟩
      have HA := Lib.hid (fun W' (hb : w.grownBy W' (some r)) => atoi_bad (W := W.extract 2 W.size) (by simp; omega) hnv W' (HE.out W' hb))
      have HV4 := Lib.hid (show varN W.data.toList = none by
        rw [HV2.out]
        cases hc : Lib.atoiAll rest with
        | ok v => exact absurd ⟨v, hc⟩ hok
        | _ => rfl)
      clear hnv hok hv0 hg2 HV2 HE
      unfold VarPost
      rw [HV4.out]
      have hxr : (((W[1]).toNat : Int) - 97) % 256 ≤ 255 := by omega
      have hxr0 : 0 ≤ (((W[1]).toNat : Int) - 97) % 256 := by omega
      go_enter Tryz.func59, Tryz.ntmps59
      go_wp2_with fail
      rw [← HM.out]
      refine HW.out.mono ?_
      rintro e w1 ⟨rfl, hR1, hg1⟩
      have hrow := (hg1.block w.heap.size (by have := HMs.out; omega) (fun e => by cases e; omega)).trans HBK.out
      have hs1 := hg1.size
      have HRW1 := Lib.hid hrow
      have HR1 := Lib.hid hR1
      have HG := Lib.hid ((grown_of HMB.out r).trans hg1)
      have hsz1 : w.heap.size < w1.heap.size := by have := HMs.out; omega
      clear hrow hR1 hg1
      go_wp2_with fail
      refine (HA.out w1 HG.out).mono ?_
      rintro e w2 ⟨⟨k2, te2, N2, rfl⟩, hb2⟩
      have hrow := (hb2.block w.heap.size hsz1).trans HRW1.out
      obtain ⟨⟨r0, r1, r2, r3⟩, fr0, fr1, fr2, fr3⟩ := row4 hrow
      obtain ⟨A3, c3, hk3, -⟩ := HR1.out.below hb2
      obtain ⟨⟨q0, q1, q2, q3⟩, f0, f1, f2, f3⟩ := row4 hk3
      have hr2 : r < w2.heap.size := (HR1.out.below hb2).lt
      have hsz2 := hb2.size
      have hsz3 : w.heap.size < w2.heap.size := by omega
      have HRW := Lib.hid hrow
      have HR2 := Lib.hid (HR1.out.below hb2)
      have HG2 := Lib.hid (HG.out.trans (grown_of hb2 r))
      clear hrow hb2 hk3
      go_wp2_with fail
      have hne : w.heap.size ≠ r := by omega
      refine bodyPost_ret (v := .agg #[.int .i64 0, .int .i64 0, .string ⟨#[]⟩, .slice none 0 0]) (results_cell_row rfl _ _ w.heap.size 24 #[.int .i64 0, .int .i64 0, .string ⟨#[]⟩, .slice none 0 0] (0, 0) _ rfl (put4_blk (blk_other (a := ⟨r, 3, none⟩) HRW.out hne) _ _ _ _) Tryz.underlying24 rfl infoTy4) rfl ?_
      exact ⟨rfl, rd_put (HR2.out.wrong true) (HG2.out.trans (grownBy_set _)) hr _ (Nat.le_refl _) _ _ _ _⟩
end Go.Proofs.YtmpmibebkflaiaaGreatDoor
namespace Go.Proofs.YtmpmibebkflaiaaGreatDoor
open Go.RowKit Go.Lib Go.Shelf Go.Sort Tp
set_option maxRecDepth 100000
set_option linter.unusedVariables false
set_option linter.unusedSectionVars false

/-- what a reading turns from a place and whether anything is wrong into a type, a place and whether anything is wrong. -/
abbrev Step := Nat → Bool → Ty → Nat → Bool → Prop
def wordT (S : ByteArray) (ts : List Lx.Tok) (i : Nat) : ByteArray := wordF S (hereT ts i).a (hereT ts i).b
inductive NamesTo (S : ByteArray) (ts : List Lx.Tok) : Ty → Nat → Ty → Nat → Prop
  | nil (t : Ty) (i : Nat) : NamesTo S ts t i t i
  | snoc {t : Ty} {i : Nat} {u : Ty} {j : Nat} (h : NamesTo S ts t i u j) (hk : (hereT ts j).kind = 1) : NamesTo S ts t i (.mk 2 0 (wordT S ts j) [u]) (j + 1)
inductive SepTo (N : Step) (S z : ByteArray) (ts : List Lx.Tok) : Nat → Bool → List Ty → Nat → Bool → Prop
  | nil (i : Nat) (b : Bool) : SepTo N S z ts i b [] i b
  | snoc {i : Nat} {b : Bool} {l : List Ty} {j : Nat} {c : Bool} {t : Ty} {k : Nat} {d : Bool} (h : SepTo N S z ts i b l j c) (hz : isT S z (hereT ts j) = true) (hN : N (j + 1) c t k d) : SepTo N S z ts i b (l ++ [t]) k d
def endR (S : ByteArray) (ts : List Lx.Tok) (i : Nat) (b : Bool) : Nat × Bool := if isT S ⟨#[41]⟩ (hereT ts i) then (i + 1, b) else (i, true)
def BrR (Wh : Step) (S : ByteArray) (ts : List Lx.Tok) : Step := fun i b t j c =>
  ∃ x i1 b1 l i2 b2, Wh i b x i1 b1 ∧ SepTo Wh S ⟨#[44]⟩ ts i1 b1 l i2 b2 ∧ isT S ⟨#[44]⟩ (hereT ts i2) = false ∧
    (if l = [] then t = x ∧ j = (endR S ts i2 b2).1 ∧ c = (endR S ts i2 b2).2
     else if (hereT ts (endR S ts i2 b2).1).kind = 1 then t = .mk 2 0 (wordT S ts (endR S ts i2 b2).1) (x :: l) ∧ j = (endR S ts i2 b2).1 + 1 ∧ c = (endR S ts i2 b2).2
     else t = .mk 2 0 ⟨#[]⟩ (x :: l) ∧ j = (endR S ts i2 b2).1 ∧ c = true)
def HeadR (Wh : Step) (S : ByteArray) (ts : List Lx.Tok) : Step := fun i b t j c =>
  if (hereT ts i).kind = 4 then (match varN (wordT S ts i).data.toList with | some n => t = .mk 1 n ⟨#[]⟩ [] ∧ j = i + 1 ∧ c = b | none => t = zeroT ∧ j = i + 1 ∧ c = true)
  else if (hereT ts i).kind = 1 then t = .mk 2 0 (wordT S ts i) [] ∧ j = i + 1 ∧ c = b
  else if isT S ⟨#[40]⟩ (hereT ts i) then BrR Wh S ts (i + 1) b t j c
  else t = zeroT ∧ j = i ∧ c = true
def NamedR (Wh : Step) (S : ByteArray) (ts : List Lx.Tok) : Step := fun i b t j c => ∃ t0 i0, HeadR Wh S ts i b t0 i0 c ∧ NamesTo S ts t0 i0 t j ∧ (hereT ts j).kind ≠ 1
def leftT (x : Ty) (l : List Ty) : Ty := if l = [] then x else .mk 3 0 ⟨#[]⟩ (x :: l)
def WholeR (S : ByteArray) (ts : List Lx.Tok) : Nat → Step
  | 0 => fun i b t j c => t = zeroT ∧ j = i ∧ c = true
  | k + 1 => fun i b t j c => if b then t = zeroT ∧ j = i ∧ c = true else
    ∃ x i1 b1 l i2 b2, NamedR (WholeR S ts k) S ts i false x i1 b1 ∧ SepTo (NamedR (WholeR S ts k) S ts) S ⟨#[42]⟩ ts i1 b1 l i2 b2 ∧ isT S ⟨#[42]⟩ (hereT ts i2) = false ∧
      (if isT S ⟨#[45, 62]⟩ (hereT ts i2) then ∃ y, WholeR S ts k (i2 + 1) b2 y j c ∧ t = .mk 4 0 ⟨#[]⟩ [leftT x l, y] else t = leftT x l ∧ j = i2 ∧ c = b2)
/-- what a reading method answers. -/
def StPost (B r : Nat) (S : ByteArray) (ts : List Lx.Tok) (R : Step) (i : Nat) (b : Bool) (w : World) (e : Ending) (w' : World) : Prop :=
  ∃ t j c A cp, R i b t j c ∧ e = .returned (tv t (.slice A t.args.length cp)) ∧ RowKit.Hid (IsA w' (New w.heap.size w') t.args (.slice A t.args.length cp)) ∧ i ≤ j ∧ RowKit.Hid (RdPost B r S ts j c w w')
def WholeAt (B r : Nat) (S : ByteArray) (ts : List Lx.Tok) (k : Nat) : Prop := ∀ (i : Nat) (b : Bool) (w : World) (d : Int), d = 301 - (k : Int) → RdA B r S ts i b w → ErrsB B w → Calls Tryz.prog 28 #[.pointer (some ⟨r, 0, none⟩), .int .i64 d] w (StPost B r S ts (WholeR S ts k) i b w)
theorem Tys.one {W : World} {B : Nat} {x : Ty} {s : Value} (hs : IsA W (New B W) x.args s) (hB : B ≤ W.heap.size) (n : Nat) (hn : n = W.heap.size) : Tys B (fun g => B ≤ g) [x] (.slice (some ⟨n, 0, none⟩) 1 1) (W.alloc (.cells #[.int .i64 x.kind, .int .i64 x.num, .string x.name, s] 24)) := by
  subst hn
  have := World.ownsRow_lit (e := 24) (size := 4) W #[.int .i64 x.kind, .int .i64 x.num, .string x.name, s] 1 hB (by unfold maxLen; omega) rfl
  refine ⟨[(x, s)], rfl, this, fun p hp => ?_⟩
  rw [List.mem_singleton] at hp
  subst hp
  refine (hs.same fun g hg => Below.heap_alloc _ _ _ hg.2).weak fun g hg => ⟨hg.1, ?_, ?_⟩
  · have := hg.2
    simp
    omega
  · have := hg.2
    simp only [Value.ownBlock, ne_eq, Option.some.injEq]
    omega
theorem SepTo.mono {N : Step} {S z : ByteArray} {ts : List Lx.Tok} {i j : Nat} {b c : Bool} {l : List Ty} (hN : ∀ i b t j c, N i b t j c → i ≤ j) (h : SepTo N S z ts i b l j c) : i + l.length ≤ j := by
  induction h with
  | nil => simp
  | snoc h hz hn ih =>
    have := hN _ _ _ _ _ hn
    rw [List.length_append, List.length_singleton]
    omega
/-- the place of a reader. -/
def atOf (r : Nat) (w : World) : Nat := (RowKit.intOf ((w.cell? ⟨r, 2, none⟩).getD undef)).toNat
theorem RdA.at {B r : Nat} {S : ByteArray} {ts : List Lx.Tok} {i : Nat} {b : Bool} {w : World} (h : RdA B r S ts i b w) : atOf r w = i := by
  obtain ⟨A, c, hk, -⟩ := h
  obtain ⟨⟨q0, q1, q2, q3⟩, -⟩ := row4 hk
  unfold atOf
  rw [q2]
  simp [RowKit.intOf]
theorem take_yes {B r : Nat} {S : ByteArray} {ts : List Lx.Tok} {i : Nat} {b : Bool} {w : World} {z : ByteArray} (hz : isT S z (hereT ts i) = true) (h : RdA B r S ts i b w) (hn : ts.length ≤ 1000000000) (hs : S.size ≤ 1000000000) :
    Calls Tryz.prog 44 #[.pointer (some ⟨r, 0, none⟩), .string z] w fun e w' => e = .returned (.bool true) ∧ RdPost B r S ts (i + 1) b w w' := by
  have := take_any z h hn (by omega)
  rw [hz] at this
  exact this
theorem take_no {B r : Nat} {S : ByteArray} {ts : List Lx.Tok} {i : Nat} {b : Bool} {w : World} {z : ByteArray} (hz : isT S z (hereT ts i) = false) (h : RdA B r S ts i b w) (hn : ts.length ≤ 1000000000) (hs : S.size ≤ 1000000000) :
    Calls Tryz.prog 44 #[.pointer (some ⟨r, 0, none⟩), .string z] w fun e w' => e = .returned (.bool false) ∧ RdPost B r S ts i b w w' := by
  have := take_any z h hn (by omega)
  rw [hz] at this
  exact this
theorem Tys.first {B n cv : Nat} {x : Ty} {l : List Ty} {Av : Option Addr} {W : World} (h : Tys B (fun g => B ≤ g) (x :: l) (.slice Av n cv) W) :
    ∃ g o Ax cx, Av = some ⟨g, o, none⟩ ∧ g < W.heap.size ∧ n = (x :: l).length ∧ (x :: l).length ≤ cv ∧ W.cell? ⟨g, o, none⟩ = some (.int .i64 x.kind) ∧ W.cell? ⟨g, o + 1, none⟩ = some (.int .i64 x.num) ∧ W.cell? ⟨g, o + 2, none⟩ = some (.string x.name) ∧ W.cell? ⟨g, o + 3, none⟩ = some (.slice Ax x.args.length cx) ∧ IsA W (New B W) x.args (.slice Ax x.args.length cx) := by
  obtain ⟨A', c', e, hc, hr⟩ := h.isNew.open
  simp only [Value.slice.injEq] at e
  obtain ⟨rfl, rfl, rfl⟩ := e
  obtain ⟨g, o, rfl, hg, hr⟩ := hr (by simp)
  obtain ⟨sx, c0, c1, c2, c3, hax⟩ := hr 0 x rfl
  obtain ⟨Ax, cx, rfl, hcx⟩ := hax.form
  exact ⟨g, o, Ax, cx, rfl, hg.2, rfl, hc, by simpa using c0, by simpa using c1, by simpa using c2, by simpa using c3, hax⟩
theorem new_put {W : World} {B B' g : Nat} {ls : List Ty} {v : Value} (h : IsA W (New B W) ls v) (hg : g < B) (hB : B' ≤ B) (x0 x1 x2 x3 : Value) : IsA (put4 W g x0 x1 x2 x3) (New B' (put4 W g x0 x1 x2 x3)) ls v :=
  (h.same fun k hk => put4_other (by have := hk.1; omega) _ _ _ _).weak fun k hk => ⟨by have := hk.1; omega, by rw [put4_size]; exact hk.2⟩
end Go.Proofs.YtmpmibebkflaiaaGreatDoor
namespace Go.Proofs.YtmpmibebkflaiaaGreatDoor
open Go.RowKit Go.Lib Go.Shelf Go.Sort Tp
set_option maxRecDepth 100000
set_option linter.unusedVariables false
set_option linter.unusedSectionVars false

theorem errs_x {B B' r : Nat} {w w' : World} (h : ErrsB B w) (hb : BelowX B' r w w') (hB : B ≤ B') (hr : B ≤ r) : ErrsB B w' :=
  h.on ⟨hb.1, hb.2.1, hb.2.2.1, hb.2.2.2.1, fun k hk => hb.2.2.2.2 k (by omega) (by omega)⟩
set_option maxHeartbeats 4000000 in
theorem bracket_any {B r : Nat} {S : ByteArray} {ts : List Lx.Tok} (k : Nat) (hk : k ≤ 300) (hW : WholeAt B r S ts k) (hn : ts.length ≤ 1000000000) (hs : S.size ≤ 1000000000)
    (i : Nat) (b : Bool) (w : World) (d : Int) (hd : d = 300 - (k : Int)) (h : RdA B r S ts i b w) (hE : ErrsB B w) :
    Calls Tryz.prog 61 #[.pointer (some ⟨r, 0, none⟩), .int .i64 d] w (StPost B r S ts (BrR (WholeR S ts k) S ts) i b w) := by
  obtain ⟨i0, hi, hz0, hz1, hz2⟩ := info_parts infoTy
  obtain ⟨M, hM⟩ : ∃ M, M = w.alloc (.cells #[.int .i64 0, .int .i64 0, .string ⟨#[]⟩, .slice none 0 0] 24) := ⟨_, rfl⟩
  have hMb : Below w.heap.size w M := by rw [hM]; exact (Below.refl _ _).alloc (Nat.le_refl _) _
  have hMs : M.heap.size = w.heap.size + 1 := by rw [hM]; simp
  have hbk : M.heap[w.heap.size]? = some (.cells #[.int .i64 0, .int .i64 0, .string ⟨#[]⟩, .slice none 0 0] 24) := by rw [hM]; exact heap_alloc_new w _
  have hr := h.lt
  have hBr : B ≤ r := by obtain ⟨_, _, _, _, hB, _⟩ := h; exact hB
  have hd1 : d + 1 = 301 - (k : Int) := by omega
  have hd0 : 0 ≤ d := by omega
  have hd2 : d ≤ 300 := by omega
  have HC := Lib.hid (hW i b M (d + 1) hd1 (h.below hMb) (hE.on (hMb.mono (by omega))))
  have HWh := Lib.hid (fun i b W => hW i b W (d + 1) hd1)
  have HEM := Lib.hid (hE.on (hMb.mono (by omega)))
  have HM := Lib.hid hM
  have HMs := Lib.hid hMs
  have HMB := Lib.hid hMb
  have HBK := Lib.hid hbk
  have HNs := Lib.hid hn
  have HSs := Lib.hid hs
  clear hW hM hMs hMb hbk hd hd1 h hE hn hs
  go_enter Tryz.func61, Tryz.ntmps61
  go_wp2_with fail
  rw [← HM.out]
  refine HC.out.mono ?_
  rintro e w1 ⟨x, i1, b1, A1, cp1, hR1, rfl, hx1, hi1, hp1⟩
  unfold tv
  obtain ⟨hrd1, hg1⟩ := hp1.out
  have hs1 := hg1.size
  have hMs := HMs.out
  have hT1 := Tys.one (B := w.heap.size + 1) (hx1.out.weak fun g hg => ⟨by have := hg.1; omega, hg.2⟩) (by omega) _ rfl
  have HT1 := Lib.hid hT1
  have HR1 := Lib.hid hR1
  have HRD1 := Lib.hid hrd1
  have HX1 := Lib.hid (show BelowX (w.heap.size + 1) r M w1 from (BelowX.of_grown hg1 (by omega)))
  clear HC hx1 hp1 hrd1 hg1 hT1 hR1
  go_wp2_with fail
  go_loopw [5] (fun v wr => ∃ (l : List Ty) (i2 : Nat) (b2 : Bool), RowKit.Hid (SepTo (WholeR S ts k) S ⟨#[44]⟩ ts i1 b1 l i2 b2) ∧ RowKit.Hid (Tys (w.heap.size + 1) (fun g => w.heap.size + 1 ≤ g) (x :: l) v wr) ∧ RowKit.Hid (RdA B r S ts i2 b2 wr) ∧ RowKit.Hid (l.length ≤ i2 ∧ i ≤ i2) ∧ RowKit.Hid (BelowX (w.heap.size + 1) r M wr)) (fun _ wr => ts.length - atOf r wr)
  case atStart => exact ⟨[], i1, b1, .nil _ _, HT1.out, HRD1.out.below ((Below.refl _ _).alloc (Nat.le_refl _) _), ⟨Nat.zero_le _, hi1⟩, HX1.out.trans (BelowX.of_below ((Below.refl _ _).alloc (by omega) _))⟩
  case round =>
    obtain ⟨l, i2, b2, HS, HT, HRD, HL, HX⟩ := hrel
    have hMw : w.heap.size + 1 ≤ wr.heap.size := by have := HX.out.2.2.2.1; omega
    have hat := HRD.out.at
    obtain ⟨Av, cv, rfl⟩ := HT.out.len
    cases hz : isT S ⟨#[44]⟩ (hereT ts i2)
    · have HTK := Lib.hid (take_no hz HRD.out HNs.out HSs.out)
      have HZ := Lib.hid hz
      clear hz
      go_wp2_with fail
      refine HTK.out.mono ?_
      rintro e w2 ⟨rfl, hrd2, hg2⟩
      have hs2 := hg2.size
      have HX2 := Lib.hid (HX.out.trans (BelowX.of_grown hg2 (by omega)))
      have HT2 := Lib.hid (HT.out.keep (fun g h1 h2 => hg2.block g h2 (fun e => by cases e; omega)) hg2.size)
      have HRD2 := Lib.hid hrd2
      clear hrd2 hg2 HTK HT
      cases he : isT S ⟨#[41]⟩ (hereT ts i2)
      · have HTE := Lib.hid (take_no he HRD2.out HNs.out HSs.out)
        have HEN := Lib.hid (show endR S ts i2 b2 = (i2, true) by unfold endR; rw [he]; rfl)
        clear he
        go_wp2_with fail
        refine HTE.out.mono ?_
        rintro e w3 ⟨rfl, hrd3, hg3⟩
        have hs3 := hg3.size
        obtain ⟨A6, c6, hk6, -⟩ := id hrd3
        obtain ⟨⟨q0, q1, q2, q3⟩, f0, f1, f2, f3⟩ := row4 hk6
        have hr3 := hrd3.lt
        go_upto_region 6 with fail
        obtain ⟨WF, hWF⟩ : ∃ WF, WF = w3.setCell ⟨r, 3, none⟩ (.bool true) := ⟨_, rfl⟩
        have hgF : w2.grownBy WF (some r) := by rw [hWF]; exact hg3.trans (grownBy_set _)
        have HRDF := Lib.hid (show RdA B r S ts i2 true WF by rw [hWF]; exact hrd3.wrong true)
        have HTF := Lib.hid (HT2.out.keep (fun g h1 h2 => hgF.block g h2 (fun e => by cases e; omega)) hgF.size)
        have HXF := Lib.hid (HX2.out.trans (BelowX.of_grown hgF (by omega)))
        rw [← hWF]
        clear hWF hgF hrd3 hg3 hk6 q0 q1 q2 q3 f0 f1 f2 f3 HT2
        have hgw := ((BelowX.of_below HMB.out).trans (HXF.out.mono (by omega))).grown
        have hrow := (HXF.out.2.2.2.2 w.heap.size (by omega) (by omega)).trans HBK.out
        obtain ⟨⟨r0, r1, r2, r3⟩, fr0, fr1, fr2, fr3⟩ := row4 hrow
        have HRW := Lib.hid hrow
        have HGW := Lib.hid hgw
        have hszF : w.heap.size < WF.heap.size := by have := HXF.out.2.2.2.1; omega
        obtain ⟨g, o, Ax, cx, rfl, hg, -, hcv, x0, x1, x2, x3, hax⟩ := HTF.out.first
        have HAX := Lib.hid hax
        have HLE := Lib.hid (show i ≤ i2 by have := HL.out.2; omega)
        clear hgw hrow hax
        by_cases hl : l = []
        · subst hl
          go_wp2_with fail
          refine bodyPost_ret (v := .agg #[.int .i64 x.kind, .int .i64 x.num, .string x.name, .slice Ax x.args.length cx]) (results_cell_row rfl _ _ w.heap.size 24 #[.int .i64 x.kind, .int .i64 x.num, .string x.name, .slice Ax x.args.length cx] (0, 0) _ rfl (put4_blk HRW.out _ _ _ _) Tryz.underlying24 rfl infoTy4) rfl ?_
          exact ⟨x, i2, true, Ax, cx, ⟨x, i1, b1, [], i2, b2, HR1.out, HS.out, HZ.out, by rw [if_pos rfl, HEN.out]; exact ⟨rfl, rfl, rfl⟩⟩, rfl, new_put HAX.out (by omega) (by omega) _ _ _ _, HLE.out, rd_put HRDF.out HGW.out hr _ (Nat.le_refl _) _ _ _ _⟩
        · have hl1 : ((((x :: l).length : Nat) : Int) == 1) = false := by
            have : l.length ≠ 0 := fun e => hl (List.eq_nil_of_length_eq_zero e)
            simp
            omega
          have hl2 : ¬ (((x :: l).length : Nat) : Int) = 1 := by simpa using hl1
          obtain ⟨LN, hLN⟩ : ∃ LN, LN = l.length + 1 := ⟨_, rfl⟩
          rw [List.length_cons, ← hLN] at hl1 hl2 hcv HTF
          rw [← hLN]
          have HNL := Lib.hid hl
          have HLN := Lib.hid hLN
          clear hl hLN
          by_cases hkd : (hereT ts i2).kind = 1
          · have HWD := Lib.hid (word_yes 1 HRDF.out HNs.out (by have := HSs.out; omega) hkd (by omega))
            have HKD := Lib.hid hkd
            clear hkd
            go_wp2_with fail
            refine HWD.out.mono ?_
            rintro e w5 ⟨rfl, hrd5, hg5⟩
            have hrow := (hg5.block w.heap.size hszF (fun e => by cases e; omega)).trans HRW.out
            obtain ⟨⟨r0, r1, r2, r3⟩, fr0, fr1, fr2, fr3⟩ := row4 hrow
            have hs5 := hg5.size
            have hsz5 : w.heap.size < w5.heap.size := by omega
            have HRW5 := Lib.hid hrow
            have HRD5 := Lib.hid hrd5
            have HT5 := Lib.hid (HTF.out.keep (fun g h1 h2 => hg5.block g h2 (fun e => by cases e; omega)) hg5.size)
            have HG5 := Lib.hid (HGW.out.trans hg5)
            clear hrow hrd5 hg5
            go_wp2_with fail
            refine bodyPost_ret (v := .agg #[.int .i64 2, .int .i64 0, .string (wordF S (hereT ts i2).a (hereT ts i2).b), .slice (some ⟨g, o, none⟩) LN cv]) (results_cell_row rfl _ _ w.heap.size 24 #[.int .i64 2, .int .i64 0, .string (wordF S (hereT ts i2).a (hereT ts i2).b), .slice (some ⟨g, o, none⟩) LN cv] (0, 0) _ rfl (put4_blk HRW5.out _ _ _ _) Tryz.underlying24 rfl infoTy4) rfl ?_
            refine ⟨.mk 2 0 (wordT S ts i2) (x :: l), i2 + 1, true, some ⟨g, o, none⟩, cv, ⟨x, i1, b1, l, i2, b2, HR1.out, HS.out, HZ.out, by rw [if_neg HNL.out, HEN.out, if_pos HKD.out]; exact ⟨rfl, rfl, rfl⟩⟩, by show _ = Ending.returned (.agg #[_, _, _, .slice _ (l.length + 1) _]); rw [← HLN.out]; rfl, ?_, by have := HLE.out; omega, rd_put HRD5.out HG5.out hr _ (Nat.le_refl _) _ _ _ _⟩
            show RowKit.Hid (IsA _ _ (x :: l) (.slice _ (l.length + 1) _))
            rw [← HLN.out]
            exact new_put HT5.out.isNew (by omega) (by omega) _ _ _ _
          · have HWD := Lib.hid (word_no 1 HRDF.out HNs.out (by have := HSs.out; omega) hkd)
            have HKD := Lib.hid hkd
            clear hkd
            go_wp2_with fail
            refine HWD.out.mono ?_
            rintro e w5 ⟨rfl, hrd5, hg5⟩
            have hrow := (hg5.block w.heap.size hszF (fun e => by cases e; omega)).trans HRW.out
            obtain ⟨⟨r0, r1, r2, r3⟩, fr0, fr1, fr2, fr3⟩ := row4 hrow
            have hs5 := hg5.size
            have hsz5 : w.heap.size < w5.heap.size := by omega
            have HRW5 := Lib.hid hrow
            have HRD5 := Lib.hid hrd5
            have HT5 := Lib.hid (HTF.out.keep (fun g h1 h2 => hg5.block g h2 (fun e => by cases e; omega)) hg5.size)
            have HG5 := Lib.hid (HGW.out.trans hg5)
            clear hrow hrd5 hg5
            go_wp2_with fail
            refine bodyPost_ret (v := .agg #[.int .i64 2, .int .i64 0, .string ⟨#[]⟩, .slice (some ⟨g, o, none⟩) LN cv]) (results_cell_row rfl _ _ w.heap.size 24 #[.int .i64 2, .int .i64 0, .string ⟨#[]⟩, .slice (some ⟨g, o, none⟩) LN cv] (0, 0) _ rfl (put4_blk HRW5.out _ _ _ _) Tryz.underlying24 rfl infoTy4) rfl ?_
            refine ⟨.mk 2 0 ⟨#[]⟩ (x :: l), i2, true, some ⟨g, o, none⟩, cv, ⟨x, i1, b1, l, i2, b2, HR1.out, HS.out, HZ.out, by rw [if_neg HNL.out, HEN.out, if_neg HKD.out]; exact ⟨rfl, rfl, rfl⟩⟩, by show _ = Ending.returned (.agg #[_, _, _, .slice _ (l.length + 1) _]); rw [← HLN.out]; rfl, ?_, by have := HLE.out; omega, rd_put HRD5.out HG5.out hr _ (Nat.le_refl _) _ _ _ _⟩
            show RowKit.Hid (IsA _ _ (x :: l) (.slice _ (l.length + 1) _))
            rw [← HLN.out]
            exact new_put HT5.out.isNew (by omega) (by omega) _ _ _ _
      · have HTE := Lib.hid (take_yes he HRD2.out HNs.out HSs.out)
        have HEN := Lib.hid (show endR S ts i2 b2 = (i2 + 1, b2) by unfold endR; rw [he]; rfl)
        clear he
        go_wp2_with fail
        refine HTE.out.mono ?_
        rintro e WF ⟨rfl, hrd3, hgF⟩
        have hs3 := hgF.size
        go_upto_region 6 with fail
        have HRDF := Lib.hid hrd3
        have HTF := Lib.hid (HT2.out.keep (fun g h1 h2 => hgF.block g h2 (fun e => by cases e; omega)) hgF.size)
        have HXF := Lib.hid (HX2.out.trans (BelowX.of_grown hgF (by omega)))
        clear hgF hrd3 HT2
        have hgw := ((BelowX.of_below HMB.out).trans (HXF.out.mono (by omega))).grown
        have hrow := (HXF.out.2.2.2.2 w.heap.size (by omega) (by omega)).trans HBK.out
        obtain ⟨⟨r0, r1, r2, r3⟩, fr0, fr1, fr2, fr3⟩ := row4 hrow
        have HRW := Lib.hid hrow
        have HGW := Lib.hid hgw
        have hszF : w.heap.size < WF.heap.size := by have := HXF.out.2.2.2.1; omega
        obtain ⟨g, o, Ax, cx, rfl, hg, -, hcv, x0, x1, x2, x3, hax⟩ := HTF.out.first
        have HAX := Lib.hid hax
        have HLE := Lib.hid (show i ≤ (i2 + 1) by have := HL.out.2; omega)
        clear hgw hrow hax
        by_cases hl : l = []
        · subst hl
          go_wp2_with fail
          refine bodyPost_ret (v := .agg #[.int .i64 x.kind, .int .i64 x.num, .string x.name, .slice Ax x.args.length cx]) (results_cell_row rfl _ _ w.heap.size 24 #[.int .i64 x.kind, .int .i64 x.num, .string x.name, .slice Ax x.args.length cx] (0, 0) _ rfl (put4_blk HRW.out _ _ _ _) Tryz.underlying24 rfl infoTy4) rfl ?_
          exact ⟨x, (i2 + 1), b2, Ax, cx, ⟨x, i1, b1, [], i2, b2, HR1.out, HS.out, HZ.out, by rw [if_pos rfl, HEN.out]; exact ⟨rfl, rfl, rfl⟩⟩, rfl, new_put HAX.out (by omega) (by omega) _ _ _ _, HLE.out, rd_put HRDF.out HGW.out hr _ (Nat.le_refl _) _ _ _ _⟩
        · have hl1 : ((((x :: l).length : Nat) : Int) == 1) = false := by
            have : l.length ≠ 0 := fun e => hl (List.eq_nil_of_length_eq_zero e)
            simp
            omega
          have hl2 : ¬ (((x :: l).length : Nat) : Int) = 1 := by simpa using hl1
          obtain ⟨LN, hLN⟩ : ∃ LN, LN = l.length + 1 := ⟨_, rfl⟩
          rw [List.length_cons, ← hLN] at hl1 hl2 hcv HTF
          rw [← hLN]
          have HNL := Lib.hid hl
          have HLN := Lib.hid hLN
          clear hl hLN
          by_cases hkd : (hereT ts (i2 + 1)).kind = 1
          · have HWD := Lib.hid (word_yes 1 HRDF.out HNs.out (by have := HSs.out; omega) hkd (by omega))
            have HKD := Lib.hid hkd
            clear hkd
            go_wp2_with fail
            refine HWD.out.mono ?_
            rintro e w5 ⟨rfl, hrd5, hg5⟩
            have hrow := (hg5.block w.heap.size hszF (fun e => by cases e; omega)).trans HRW.out
            obtain ⟨⟨r0, r1, r2, r3⟩, fr0, fr1, fr2, fr3⟩ := row4 hrow
            have hs5 := hg5.size
            have hsz5 : w.heap.size < w5.heap.size := by omega
            have HRW5 := Lib.hid hrow
            have HRD5 := Lib.hid hrd5
            have HT5 := Lib.hid (HTF.out.keep (fun g h1 h2 => hg5.block g h2 (fun e => by cases e; omega)) hg5.size)
            have HG5 := Lib.hid (HGW.out.trans hg5)
            clear hrow hrd5 hg5
            go_wp2_with fail
            refine bodyPost_ret (v := .agg #[.int .i64 2, .int .i64 0, .string (wordF S (hereT ts (i2 + 1)).a (hereT ts (i2 + 1)).b), .slice (some ⟨g, o, none⟩) LN cv]) (results_cell_row rfl _ _ w.heap.size 24 #[.int .i64 2, .int .i64 0, .string (wordF S (hereT ts (i2 + 1)).a (hereT ts (i2 + 1)).b), .slice (some ⟨g, o, none⟩) LN cv] (0, 0) _ rfl (put4_blk HRW5.out _ _ _ _) Tryz.underlying24 rfl infoTy4) rfl ?_
            refine ⟨.mk 2 0 (wordT S ts (i2 + 1)) (x :: l), (i2 + 1) + 1, b2, some ⟨g, o, none⟩, cv, ⟨x, i1, b1, l, i2, b2, HR1.out, HS.out, HZ.out, by rw [if_neg HNL.out, HEN.out, if_pos HKD.out]; exact ⟨rfl, rfl, rfl⟩⟩, by show _ = Ending.returned (.agg #[_, _, _, .slice _ (l.length + 1) _]); rw [← HLN.out]; rfl, ?_, by have := HLE.out; omega, rd_put HRD5.out HG5.out hr _ (Nat.le_refl _) _ _ _ _⟩
            show RowKit.Hid (IsA _ _ (x :: l) (.slice _ (l.length + 1) _))
            rw [← HLN.out]
            exact new_put HT5.out.isNew (by omega) (by omega) _ _ _ _
          · have HWD := Lib.hid (word_no 1 HRDF.out HNs.out (by have := HSs.out; omega) hkd)
            have HKD := Lib.hid hkd
            clear hkd
            go_wp2_with fail
            refine HWD.out.mono ?_
            rintro e w5 ⟨rfl, hrd5, hg5⟩
            have hrow := (hg5.block w.heap.size hszF (fun e => by cases e; omega)).trans HRW.out
            obtain ⟨⟨r0, r1, r2, r3⟩, fr0, fr1, fr2, fr3⟩ := row4 hrow
            have hs5 := hg5.size
            have hsz5 : w.heap.size < w5.heap.size := by omega
            have HRW5 := Lib.hid hrow
            have HRD5 := Lib.hid hrd5
            have HT5 := Lib.hid (HTF.out.keep (fun g h1 h2 => hg5.block g h2 (fun e => by cases e; omega)) hg5.size)
            have HG5 := Lib.hid (HGW.out.trans hg5)
            clear hrow hrd5 hg5
            go_wp2_with fail
            refine bodyPost_ret (v := .agg #[.int .i64 2, .int .i64 0, .string ⟨#[]⟩, .slice (some ⟨g, o, none⟩) LN cv]) (results_cell_row rfl _ _ w.heap.size 24 #[.int .i64 2, .int .i64 0, .string ⟨#[]⟩, .slice (some ⟨g, o, none⟩) LN cv] (0, 0) _ rfl (put4_blk HRW5.out _ _ _ _) Tryz.underlying24 rfl infoTy4) rfl ?_
            refine ⟨.mk 2 0 ⟨#[]⟩ (x :: l), (i2 + 1), true, some ⟨g, o, none⟩, cv, ⟨x, i1, b1, l, i2, b2, HR1.out, HS.out, HZ.out, by rw [if_neg HNL.out, HEN.out, if_neg HKD.out]; exact ⟨rfl, rfl, rfl⟩⟩, by show _ = Ending.returned (.agg #[_, _, _, .slice _ (l.length + 1) _]); rw [← HLN.out]; rfl, ?_, by have := HLE.out; omega, rd_put HRD5.out HG5.out hr _ (Nat.le_refl _) _ _ _ _⟩
            show RowKit.Hid (IsA _ _ (x :: l) (.slice _ (l.length + 1) _))
            rw [← HLN.out]
            exact new_put HT5.out.isNew (by omega) (by omega) _ _ _ _
    · have HTK := Lib.hid (take_yes hz HRD.out HNs.out HSs.out)
      have HZ := Lib.hid hz
      have hlt := isT_lt hz
      clear hz
      go_wp2_with fail
      refine HTK.out.mono ?_
      rintro e w2 ⟨rfl, hrd2, hg2⟩
      have hs2 := hg2.size
      have HX2 := Lib.hid (HX.out.trans (BelowX.of_grown hg2 (by omega)))
      have HT2 := Lib.hid (HT.out.keep (fun g h1 h2 => hg2.block g h2 (fun e => by cases e; omega)) hg2.size)
      have HC2 := Lib.hid (HWh.out (i2 + 1) b2 w2 hrd2 (errs_x HEM.out HX2.out (by omega) hBr))
      clear hrd2 hg2 HTK HT
      go_wp2_with (first
        | (go_at_call 28
           refine HC2.out.mono ?_
           rintro e w3 ⟨y, i3, b3, A3, cp3, hR3, rfl, hy3, hi3, hp3⟩
           unfold tv
           obtain ⟨hrd3, hg3⟩ := hp3.out
           have hs3 := hg3.size
           obtain ⟨ps, -, ho, hnx⟩ := tys_round rfl HT2.out (fun g h1 h2 => hg3.block g h2 (fun e => by cases e; omega)) hg3.size (by omega) hy3.out
           have HO := Lib.hid ho
           have HNX := Lib.hid hnx
           have HPL := Lib.hid (ty_plain hy3.out)
           have HRD3 := Lib.hid hrd3
           have HX3 := Lib.hid (HX2.out.trans (BelowX.of_grown hg3 (by omega)))
           have hlen : (x :: l).length + 1 ≤ 2000000000 := by
             have h1 := HL.out.1
             have h2 := HNs.out
             simp
             omega
           have HR3 := Lib.hid hR3
           clear hrd3 hg3 ho hnx hy3 hp3 hR3)
        | (at_builtin
           refine wpList_append_own_at _ rfl _ _ 22 rfl (w.heap.size + 1) 24 i0 _ 4 56 Tryz.underlying22 hi hz0 hz1 hz2 rfl (by decide) _ _ _ rfl (HO.out.alloc _) ⟨w3.heap.size, 0, none⟩ 1 1 (tyCells y (.slice A3 y.args.length cp3)) rfl rfl (ty_news _ _ _ _) HPL.out (by unfold maxLen; omega) (by omega) (by simp; omega) ?_
           intro v' w4 hown hgrow hnil hloc
           have HST := Lib.hid (HNX.out v' w4 _ hown hgrow hloc)
           clear hown hgrow hnil hloc))
      have hrd4 : RdA B r S ts i3 b3 w4 := HRD3.out.keep fun k hk => HST.out.2.block k (by omega)
      have hat4 := hrd4.at
      refine ⟨⟨l ++ [y], i3, b3, HS.out.snoc HZ.out HR3.out, HST.out.1, hrd4, ⟨?_, ?_⟩, HX3.out.trans (BelowX.of_below HST.out.2)⟩, ?_⟩
      · have := HL.out.1
        rw [List.length_append, List.length_singleton]
        omega
      · have := HL.out.2
        omega
      · rw [hat4, hat]
        omega
end Go.Proofs.YtmpmibebkflaiaaGreatDoor
