/- The reference's show at names with several arguments. -/
import Derived.Test.YtmpmibebkflaiaaGreatDoorTypSt
namespace Go.Proofs.YtmpmibebkflaiaaGreatDoor
open Go.RowKit Go.Lib Go.Shelf Go.Sort Tp
set_option maxRecDepth 100000
set_option linter.unusedVariables false
set_option linter.unusedSectionVars false

set_option maxHeartbeats 8000000 in
theorem rshow_many {n : Nat} (hS : RShow n) (z : ByteArray) (xs : List Ty) (s : Value) (w : World) (h2 : 2 ≤ xs.length) (hx : ∀ x ∈ xs, x.wt ≤ n ∧ okT nameB x ∧ x.wt ≤ 300 ∧ (∀ p ∈ parts x, p.name.size ≤ 16000) ∧ fit x) (hl : (writeB (.mk 2 0 z xs)).length ≤ 5000000) (hlen : xs.length ≤ 300) (hA : IsA w (Old w) xs s) :
    Calls Tryz.prog 26 #[.agg #[.int .i64 2, .int .i64 0, .string z, s]] w fun e w' => e = .returned (.string ⟨⟨writeB (.mk 2 0 z xs)⟩⟩) ∧ Below w.heap.size w w' := by
  obtain ⟨A, c, rfl, hc, hr⟩ := hA.open
  obtain ⟨g, o, rfl, hg, hel⟩ := hr (by omega)
  obtain ⟨L, hL⟩ : ∃ L, L = xs.length := ⟨_, rfl⟩
  have hwr : writeB (.mk 2 0 z xs) = [40] ++ joinB [44, 32] [] (texts xs) ++ [41, 32] ++ z.data.toList := by
    rw [writeB_eq]
    match xs, h2 with
    | x :: y :: ys, _ => rfl
  have hjl : (joinB [44, 32] [] (texts xs)).length + 3 + z.size ≤ 5000000 := by
    rw [hwr] at hl
    have : z.data.toList.length = z.size := by simp
    simp only [List.length_append, List.length_cons, List.length_nil] at hl
    omega
  obtain ⟨M, hM⟩ : ∃ M, M = w.alloc (.cells #[.int .i64 2, .int .i64 0, .string z, .slice (some ⟨g, o, none⟩) L c] 24) := ⟨_, rfl⟩
  have hMb : Below w.heap.size w M := by rw [hM]; exact (Below.refl _ _).alloc (Nat.le_refl _) _
  have hMs : M.heap.size = w.heap.size + 1 := by rw [hM]; simp
  have hbx : M.heap[w.heap.size]? = some (.cells #[.int .i64 2, .int .i64 0, .string z, .slice (some ⟨g, o, none⟩) L c] 24) := by rw [hM]; exact heap_alloc_new w _
  have HX := Lib.hid (fun W (hW : Below M.heap.size M W) => box4 ((hW.block w.heap.size (by omega)).trans hbx))
  have HE := Lib.hid (fun W (hW : Below M.heap.size M W) (k : Nat) (x : Ty) (hx : xs[k]? = some x) => (show ElsT w (Old w) g o xs from hel).at hg (hMb.trans (hW.mono hMb.size)) hx)
  have HV := Lib.hid hwr
  have HJ := Lib.hid (fun j (hj : j ≤ xs.length) => joinB_mono [44, 32] [] xs j hj)
  have HJL := Lib.hid hjl
  have HXS := Lib.hid hx
  have HS := Lib.hid hS
  have HM := Lib.hid hM
  have HMb := Lib.hid hMb
  have HL := Lib.hid hL
  have hz : z.size ≤ 5000000 := by omega
  rw [← hL] at hc h2 hlen ⊢
  have hl0 : ((L : Int) == 0) = false := by simp; omega
  have hl1 : ((L : Int) == 1) = false := by simp; omega
  clear hS hA hr hel hM hMb hMs hbx hl hwr hjl hx hL
  go_enter Tryz.func26, Tryz.ntmps26
  go_wp2
  rw [← HM.out]
  go_loopw [4, 5] (fun sv i wr => ∃ (j : Nat) (V : ByteArray), j ≤ L ∧ i = .int .i64 j ∧ sv = .string V ∧ V.size ≤ 5000001 ∧ RowKit.Hid (V.data.toList = [40] ++ joinB [44, 32] [] (texts (xs.take j))) ∧ RowKit.Hid (Below M.heap.size M wr)) (fun _ i _ => L - (RowKit.intOf i).toNat)
  case atStart => exact ⟨0, _, by omega, rfl, rfl, by decide, Lib.hid (by rw [texts_eq]; rfl), Lib.hid (Below.refl _ _)⟩
  case round =>
    obtain ⟨j, V, hj, rfl, rfl, hV, HVL, HB⟩ := hrel
    obtain ⟨x0, x1, x2, x3⟩ := HX.out wr HB.out
    by_cases hlt : j < L
    · obtain ⟨x, hx⟩ : ∃ x, xs[j]? = some x := ⟨_, List.getElem?_eq_getElem (by have := HL.out; omega)⟩
      obtain ⟨sx, c0, c1, c2, c3, hax⟩ := HE.out wr HB.out _ _ hx
      obtain ⟨Ax, cx, rfl, -⟩ := hax.form
      obtain ⟨h1, h2', h3, h4, h5⟩ := HXS.out x (List.mem_of_getElem? hx)
      have hC := HS.out x _ wr h1 h2' h3 h4 h5 hax
      obtain ⟨U, hU⟩ : ∃ U : ByteArray, U = ⟨⟨writeB x⟩⟩ := ⟨_, rfl⟩
      have hUs : U.size ≤ 5000000 := by rw [hU]; exact text_size h2' h3 h4
      have HUL := Lib.hid (show U.data.toList = writeB x by rw [hU])
      have HJT := Lib.hid (joinB_take [44, 32] [] hx)
      have HJN := Lib.hid (HJ.out (j + 1) (by have := HL.out; omega))
      rw [← hU] at hC
      have HC := Lib.hid hC
      unfold tv at HC
      clear hx hax h1 h2' h3 h4 h5 hC hU
      have hfin : ∀ V' : ByteArray, V'.data.toList = V.data.toList ++ (if j = 0 then [] else [44, 32]) ++ U.data.toList → V'.data.toList = [40] ++ joinB [44, 32] [] (texts (xs.take (j + 1))) ∧ V'.size ≤ 5000001 := fun V' h => by
        have e : V'.data.toList = [40] ++ joinB [44, 32] [] (texts (xs.take (j + 1))) := by
          rw [h, HVL.out, HUL.out, HJT.out]
          show _ = [40] ++ (_ ++ _ ++ writeB x)
          simp
        refine ⟨e, ?_⟩
        have e2 : V'.size = V'.data.toList.length := by simp
        have e3 := HJN.out
        have e4 := HJL.out
        rw [e2, e, List.length_append, List.length_singleton]
        omega
      have HFIN := Lib.hid hfin
      clear hfin
      by_cases hj0 : j = 0
      · subst hj0
        simp only [Nat.zero_mul, Nat.add_zero] at c0 c1 c2 c3
        go_wp2_with (go_at_call 26; with_reducible (refine HC.out.mono ?_); rintro e w1 ⟨rfl, hb1⟩; have HB1 := Lib.hid (HB.out.trans (hb1.mono HB.out.size)); clear hb1)
        go_roundw
        case rel => exact ⟨1, _, by omega, by go_num, rfl, (HFIN.out _ (by simp)).2, Lib.hid (HFIN.out _ (by simp)).1, HB1⟩
        case measure => simp [RowKit.intOf]; omega
      · have hj1 : 0 < j := by omega
        have HJ0 := Lib.hid hj0
        clear hj0
        go_wp2_with (go_at_call 26; with_reducible (refine HC.out.mono ?_); rintro e w1 ⟨rfl, hb1⟩; have HB1 := Lib.hid (HB.out.trans (hb1.mono HB.out.size)); clear hb1)
        go_roundw
        case rel => exact ⟨j + 1, _, by omega, by go_num, rfl, (HFIN.out _ (by rw [if_neg HJ0.out]; simp)).2, Lib.hid (HFIN.out _ (by rw [if_neg HJ0.out]; simp)).1, HB1⟩
        case measure => simp [RowKit.intOf]; omega
    · have hjL : j = L := by omega
      subst hjL
      go_wp2
      go_ret
      refine ⟨ret_str (ba_ext2 ?_), HMb.out.trans (HB.out.mono HMb.out.size)⟩
      have h := HVL.out
      rw [List.take_of_length_le (by have := HL.out; omega)] at h
      rw [HV.out, ← h]
      simp
end Go.Proofs.YtmpmibebkflaiaaGreatDoor
