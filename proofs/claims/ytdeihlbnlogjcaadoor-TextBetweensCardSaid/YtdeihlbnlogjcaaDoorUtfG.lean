/- The contract of utf's iterator places. -/
import Derived.RangeFuncNested
import Derived.RangeFuncBound
import Derived.RangeFuncCalls
import Derived.RangeFuncLeaves
import Derived.Shelf.Abstract
import Derived.Shelf.RegionOpen
import Derived.WalkKit
import Derived.OwnWalkIn
import Derived.TacticsInMore
import Derived.LoopNIn
import Derived.LoopIn
import Derived.Test.YtdeihlbnlogjcaaDoorUtfF
namespace Go.Proofs.YtdeihlbnlogjcaaDoor
open Go.RowKit Go.Lib Go.Shelf
attribute [local go_sem] Oper.semAt_some
set_option maxRecDepth 100000
set_option linter.unusedVariables false
set_option linter.unusedSectionVars false

/-- what a round keeps that goes on. -/
def PKp (n₀ : Nat) (A B : World) : Prop := Below n₀ A B ∧ KeepsWalks A B
def pEnc (x : Int × Int) : Array Value := #[.int .i64 x.1, .int .i64 x.2]
theorem grown_iter {W : World} {k : Nat} {s : ByteArray} {p : Nat} (q : Nat) : W.grownBy (W.iterAt k s q) (some k) := grownBy_putObj' W k (.stringIter s q)
theorem abides_iter {β : Type} {B : Nat} {J : β → World → Prop} (hJ : AbidesFrom B J) {x : β} {W : World} {k : Nat} {s : ByteArray} {p : Nat} (hk : W.heap[k]? = some (.stringIter s p)) (hB : B ≤ k) (q : Nat) (h : J x W) : J x (W.iterAt k s q) :=
  hJ x W _ (some k) h (grown_iter (p := p) q) (fun r e => by cases e; exact ⟨hB, _, hk, rfl⟩)
theorem places_cons (o u r : Int) (rs : List Int) : Ut.placesF o u (r :: rs) = (o, u) :: Ut.placesF (o + (encodeRune r).length) (u + Ut.widthR r) rs := rfl
theorem places_len : ∀ (rs : List Int) (o u : Int), (Ut.placesF o u rs).length = rs.length + 1
  | [], _, _ => rfl
  | r :: rs, o, u => by rw [places_cons, List.length_cons, places_len rs, List.length_cons]
set_option maxHeartbeats 2000000 in
theorem places_any (n : Nat) (hn : 1 ≤ n) (l Bn n₀ : Nat) (s : ByteArray) (J Jx : List (Int × Int) → World → Prop) (W : World) (hBn : Bn < n₀) (hn₀ : n₀ ≤ W.heap.size)
    (hc : W.cell? ⟨Bn, 0, none⟩ = some (.string s)) (hs : s.size ≤ 1099511627776) (hv : validD s.data.toList = true) (hJ : AbidesFrom W.heap.size J) (hJx : AbidesFrom W.heap.size Jx)
    (hY : ∀ pre x W1, J pre W1 → pre.length < (Ut.placesF 0 0 (Ut.runesF s.data.toList)).length → YieldAt Fence.wide (n - 1) Tryd.prog l (pEnc x) W1 fun e W' =>
      (e = .returned (.bool true) ∧ J (pre ++ [x]) W' ∧ PKp n₀ W1 W') ∨ (e = .returned (.bool false) ∧ Jx (pre ++ [x]) W')) (h0 : J [] W) :
    CallsIn Fence.wide n Tryd.prog 74 #[.func (.yield l) #[] #[], .pointer (some ⟨Bn, 0, none⟩)] W fun e W' => (∃ v, e = .returned v) ∧
      ((∃ ys, ys = Ut.placesF 0 0 (Ut.runesF s.data.toList) ∧ J ys W') ∨ (∃ pre, pre <+: Ut.placesF 0 0 (Ut.runesF s.data.toList) ∧ Jx pre W')) := by
  refine callsIn_of_wp Tryd.func74 rfl trivial ?_ rfl
  simp only [Tryd.ntmps74, List.size_toArray, List.length_cons, List.length_nil, Nat.reduceAdd, Nat.reduceSub, Array.replicate_succ, Array.replicate_zero, List.push_toArray, List.append_toArray, List.nil_append, List.cons_append]
  gi_wp2
  gi_loopw [3] (fun u wr => ∃ (pos : Nat) (uu : Int) (pre : List (Int × Int)), u = .int .i64 uu ∧ pos ≤ s.size ∧ 0 ≤ uu ∧ uu ≤ pos ∧ RowKit.Hid (wr.heap[W.heap.size]? = some (.stringIter s pos)) ∧ RowKit.Hid (wr.cell? ⟨Bn, 0, none⟩ = some (.string s)) ∧ RowKit.Hid (J pre wr) ∧ RowKit.Hid (Ut.placesF 0 0 (Ut.runesF s.data.toList) = pre ++ Ut.placesF pos uu (Ut.runesF (s.data.toList.drop pos))) ∧ RowKit.Hid (validD (s.data.toList.drop pos) = true)) (fun _ wr => s.size - wr.iterPos W.heap.size)
  case atStart =>
    exact ⟨0, 0, [], rfl, by omega, by omega, by omega, World.iter_heap W s 0, (((Below.refl n₀ W).alloc hn₀ _).cell (p := ⟨Bn, 0, none⟩) hBn).trans hc,
      hJ [] W _ none h0 (World.grownBy_alloc W _ none) (fun r e => by cases e), by simp [RowKit.Hid], by simpa [RowKit.Hid] using hv⟩
  case round =>
    obtain ⟨pos, uu, pre, rfl, hpos, hu0, hu1, HIT, HC, HJ0, HPL, HVD⟩ := hrel
    have hlen : pre.length < (Ut.placesF 0 0 (Ut.runesF s.data.toList)).length := by
      rw [HPL.out, List.length_append, places_len]
      omega
    by_cases hp : pos < s.size
    · obtain ⟨R, K, hRK⟩ : ∃ R K, Utf8.decode s pos = (R, K) := ⟨_, _, rfl⟩
      have hdl := decodeL_drop s pos
      rw [hRK] at hdl
      have hne : s.data.toList.drop pos ≠ [] := by
        intro e
        have := congrArg List.length e
        simp at this
        omega
      have hok : Ut.okH (s.data.toList.drop pos) := Classical.byContradiction fun h => by
        have := Ut.validD_no _ hne h
        rw [HVD.out] at this
        cases this
      have hvd2 := (Ut.validD_ok _ hne hok).symm.trans HVD.out
      have hR := decodeL_rune (s.data.toList.drop pos)
      have hK1 := decodeL_width (s.data.toList.drop pos)
      have hK2 := decodeL_le _ hne
      have hst := Ut.runes_step _ hne
      have hen := congrArg List.length (Ut.dec_split _ hne hok)
      rw [hdl] at hR hK1 hK2 hst hvd2 hen
      simp only [List.length_append, List.length_drop] at hR hK1 hK2 hst hen
      have hL : s.data.toList.length = s.size := by simp
      rw [hL] at hK2 hen
      have hen2 : (encodeRune (R : Int)).length = K := by omega
      have hir := Ut.dec_isR _ hok
      rw [hdl] at hir
      have hel := Ut.enc_len _ hir
      simp only at hel
      have hwK : Ut.widthR R ≤ K := by
        unfold Ut.widthR
        split <;> omega
      rw [List.drop_drop] at hst hvd2
      have HPL2 := Lib.hid (show Ut.placesF 0 0 (Ut.runesF s.data.toList) = (pre ++ [((pos : Int), uu)]) ++ Ut.placesF ((pos + K : Nat) : Int) (uu + Ut.widthR R) (Ut.runesF (s.data.toList.drop (pos + K))) by
        rw [HPL.out, hst, places_cons, hen2]
        simp)
      have HVD2 := Lib.hid hvd2
      have hw := Ut.width_pos R
      obtain ⟨wd, hwd⟩ : ∃ wd, wd = Ut.widthR R := ⟨_, rfl⟩
      rw [← hwd] at hw hwK
      have HW := Lib.hid (fun W => hwd.symm ▸ width_any R W)
      rw [← hwd] at HPL2
      obtain ⟨hw1, hw2⟩ := hw
      have hnx : ∀ ty, (Instr.next (.pointer (some ⟨W.heap.size, 0, none⟩)) true ty).run Tryd.prog wr = _ := fun ty => Lib.run_next_any_at wr W.heap.size s pos ty HIT.out hp
      rw [hRK] at hnx
      simp only at hnx
      have HIT2 := Lib.hid (Lib.iterAt_heap wr W.heap.size s pos (pos + K) HIT.out)
      have HC2 := Lib.hid ((Lib.below_iterAt (Below.refl n₀ wr) hn₀ s (pos + K)).cell (p := ⟨Bn, 0, none⟩) hBn |>.trans HC.out)
      have HJ2 := Lib.hid (abides_iter hJ HIT.out (Nat.le_refl _) (pos + K) HJ0.out)
      have HPOS := Lib.hid (iterPos_of HIT.out)
      obtain ⟨W1, hW1⟩ : ∃ W1, W1 = wr.iterAt W.heap.size s (pos + K) := ⟨_, rfl⟩
      rw [← hW1] at hnx HIT2 HC2 HJ2
      have hR2 : (R : Int) ≤ 1114111 := by omega
      obtain ⟨fn, tmps, assign, body, hy, hRR⟩ := hY pre (pos, uu) W1 HJ2.out hlen
      dsimp only [pEnc] at hy
      have HKW : RowKit.Hid (∀ W3, PKp n₀ W1 W3 → W3.heap[W.heap.size]? = some (.stringIter s (pos + K)) ∧ W3.cell? ⟨Bn, 0, none⟩ = some (.string s)) := fun W3 h => ⟨h.2.same _ _ HIT2.out rfl, (h.1.cell (p := ⟨Bn, 0, none⟩) hBn).trans HC2.out⟩
      have hK3 : pos + K ≤ s.size := by omega
      have hposK : 1 ≤ K := by omega
      clear hW1 hRK hir hel hdl hne hst hL hok hvd2 hwd hen hen2 hK2 hK1 hY
      gi_wp2
      refine hRR.mono ?_
      rintro e W3 (⟨rfl, hJ3, hk3⟩ | ⟨rfl, hJx3⟩)
      · have HJ3 := Lib.hid hJ3
        have HK3 := Lib.hid (HKW.out W3 hk3)
        clear hJ3 hk3
        gi_wp2_with (refine ⟨trivial, ?_⟩; gi_at_call 72; with_reducible (refine (callsIn_wide.2 (HW.out _)).mono ?_); rintro e w1 ⟨rfl, rfl⟩)
        go_roundw
        case rel => exact ⟨pos + K, uu + wd, pre ++ [((pos : Int), uu)], by go_num, by omega, by omega, by omega, HK3.out.1, HK3.out.2, HJ3.out, HPL2.out, HVD2.out⟩
        case measure => rw [iterPos_of HK3.out.1, HPOS.out]; omega
      · have HJX := Lib.hid hJx3
        clear hJx3
        gi_wp2
        refine bodyPost_ret (results_none rfl _ _ _) rfl ?_
        exact ⟨⟨_, rfl⟩, .inr ⟨pre ++ [((pos : Int), uu)], ⟨_, HPL2.out.symm⟩, HJX.out⟩⟩
    · have hnx : ∀ ty, (Instr.next (.pointer (some ⟨W.heap.size, 0, none⟩)) true ty).run Tryd.prog wr = _ := fun ty => Lib.run_next_end_at wr W.heap.size s pos ty HIT.out hp
      have hpl : Ut.placesF 0 0 (Ut.runesF s.data.toList) = pre ++ [((s.size : Int), uu)] := by
        have e : pos = s.size := by omega
        have h := HPL.out
        rw [List.drop_eq_nil_of_le (by simp; omega), Ut.runes_nil, e] at h
        exact h
      have HP2 := Lib.hid hpl
      have HC2 := HC.out
      obtain ⟨fn, tmps, assign, body, hy, hRR⟩ := hY pre (s.size, uu) wr HJ0.out hlen
      dsimp only [pEnc] at hy
      clear hpl hY
      gi_wp2
      refine hRR.mono ?_
      rintro e W3 (⟨rfl, hJ3, hk3⟩ | ⟨rfl, hJx3⟩)
      · have HJ3 := Lib.hid hJ3
        clear hJ3 hk3
        gi_wp2
        go_end0
        exact ⟨⟨_, rfl⟩, .inl ⟨_, HP2.out.symm, HJ3.out⟩⟩
      · have HJX := Lib.hid hJx3
        clear hJx3
        gi_wp2
        go_end0
        exact ⟨⟨_, rfl⟩, .inr ⟨_, ⟨[], by rw [HP2.out, List.append_nil]⟩, HJX.out⟩⟩
/-- the iterator's contract. -/
theorem places_stops (n : Nat) (hn : 1 ≤ n) (Bn n₀ : Nat) (s : ByteArray) (w : World) (hBn : Bn < n₀) (hn₀ : n₀ ≤ w.heap.size) (hc : w.cell? ⟨Bn, 0, none⟩ = some (.string s)) (hs : s.size ≤ 1099511627776) (hv : validD s.data.toList = true) :
    SeqStopsK Fence.wide n Tryd.prog 74 #[.pointer (some ⟨Bn, 0, none⟩)] pEnc (PKp n₀) (fun ys => ys = Ut.placesF 0 0 (Ut.runesF s.data.toList)) (fun pre => pre <+: Ut.placesF 0 0 (Ut.runesF s.data.toList)) (Ut.placesF 0 0 (Ut.runesF s.data.toList)).length w := fun l J Jx W hW hJ hJx hY h0 =>
  places_any n hn l Bn n₀ s J Jx W hBn (Nat.le_trans hn₀ hW.size) ((hW.cell (p := ⟨Bn, 0, none⟩) (by show Bn < _; omega)).trans hc) hs hv hJ hJx hY h0
end Go.Proofs.YtdeihlbnlogjcaaDoor
