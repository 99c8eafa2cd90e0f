/- The reference's Split. The reference's Offset. -/
import Derived.Test.YtdeihlbnlogjcaaDoorTexJ
import Derived.Test.YtdeihlbnlogjcaaDoorUtfZb
import Derived.Lib.IndexLaws
namespace Go.Proofs.YtdeihlbnlogjcaaDoor
open Go.RowKit Go.Lib Go.Shelf
set_option maxRecDepth 100000
set_option linter.unusedVariables false

/-! ### lines, by definition -/
def linesF : List UInt8 → List (List UInt8)
  | [] => [[]]
  | b :: l => if b = 10 then [] :: linesF l else match linesF l with
    | h :: t => (b :: h) :: t
    | [] => [[b]]
theorem lines_cut : ∀ (P Q : List UInt8), (10 : UInt8) ∉ P → linesF (P ++ 10 :: Q) = P :: linesF Q
  | [], Q, _ => by simp [linesF]
  | b :: P, Q, h => by
    simp only [List.mem_cons, not_or] at h
    rw [List.cons_append, linesF, if_neg (fun e => h.1 e.symm), lines_cut P Q h.2]
theorem lines_one : ∀ (P : List UInt8), (10 : UInt8) ∉ P → linesF P = [P]
  | [], _ => rfl
  | b :: P, h => by
    simp only [List.mem_cons, not_or] at h
    rw [linesF, if_neg (fun e => h.1 e.symm), lines_one P h.2]
theorem at_lf {X : List UInt8} {i : Nat} (h : Lib.indexByte X 10 = i) : X = X.take i ++ 10 :: X.drop (i + 1) ∧ (10 : UInt8) ∉ X.take i ∧ i < X.length := by
  obtain ⟨h1, h2⟩ := Lib.indexByte_some h
  obtain ⟨hlt, hx⟩ := List.getElem?_eq_some_iff.1 h1
  refine ⟨?_, fun hm => ?_, hlt⟩
  · conv => lhs; rw [← List.take_append_drop i X]
    rw [List.drop_eq_getElem_cons hlt, hx]
  · obtain ⟨j, hj⟩ := List.mem_iff_getElem?.1 hm
    have hj2 : j < i := by
      have := (List.getElem?_eq_some_iff.1 hj).1
      rw [List.length_take] at this
      omega
    rw [List.getElem?_take_of_lt hj2] at hj
    exact h2 j hj2 hj
theorem no_lf {X : List UInt8} (h : Lib.indexByte X 10 = -1) : (10 : UInt8) ∉ X := by
  intro hm
  obtain ⟨j, hj⟩ := List.mem_iff_getElem?.1 hm
  exact Lib.indexByte_none h j hj
theorem start_next (L : List UInt8) (k : Nat) (h : k + 1 ≤ Lib.countByte L 10) : ∃ i : Nat, Lib.indexByte (L.drop (startN k L)) 10 = i ∧ startN (k + 1) L = startN k L + (i + 1) := by
  obtain ⟨h1, h2⟩ := start_spec L k (by omega)
  rcases index_spec (L.drop (startN k L)) with ⟨a1, a2⟩ | ⟨i, a1, a2, a3, -⟩
  · omega
  · refine ⟨i, a1, ?_⟩
    show startN k L + (Lib.indexByte (L.drop (startN k L)) 10 + 1).toNat = _
    rw [a1]
    omega
theorem lines_drop (L : List UInt8) : ∀ k, k ≤ Lib.countByte L 10 → linesF (L.drop (startN k L)) = (linesF L).drop k
  | 0, _ => by simp [startN]
  | k + 1, h => by
    obtain ⟨i, h1, h2⟩ := start_next L k h
    have ih := lines_drop L k (by omega)
    obtain ⟨e1, e2, -⟩ := at_lf h1
    have e3 := congrArg linesF e1
    rw [lines_cut _ _ e2, ih] at e3
    have e4 : (linesF L).drop (k + 1) = ((linesF L).drop k).tail := List.tail_drop.symm
    rw [h2, ← List.drop_drop, e4, e3]
    rfl
theorem lines_get (L : List UInt8) (k : Nat) (h : k ≤ Lib.countByte L 10) : (linesF L)[k]? = some (ownL L k) := by
  have e := congrArg (fun l => l[0]?) (lines_drop L k h)
  simp only [List.getElem?_drop, Nat.add_zero] at e
  rw [← e]
  unfold ownL
  rcases index_spec (L.drop (startN k L)) with ⟨a1, -⟩ | ⟨i, a1, -⟩
  · have hn := no_lf a1
    rw [lines_one _ hn, cut_no _ hn]
    rfl
  · obtain ⟨e1, e2, -⟩ := at_lf a1
    rw [e1, lines_cut _ _ e2, cut_at _ _ e2]
    rfl
theorem lines_len (L : List UInt8) : (linesF L).length = Lib.countByte L 10 + 1 := by
  induction L with
  | nil => rfl
  | cons b l ih =>
    unfold Lib.countByte at ih ⊢
    rw [linesF, List.count_cons]
    by_cases hb : b = 10
    · rw [if_pos hb, List.length_cons, ih, hb]
      simp
    · rw [if_neg hb]
      have hb2 : (b == (10 : UInt8)) = false := by simpa using hb
      rw [hb2]
      cases hl : linesF l with
      | nil => rw [hl] at ih; simp at ih
      | cons x t =>
        rw [hl] at ih
        simpa using ih
theorem start_own (L : List UInt8) (k : Nat) (h : k + 1 ≤ Lib.countByte L 10) : startN (k + 1) L = startN k L + ((ownL L k).length + 1) := by
  obtain ⟨i, h1, h2⟩ := start_next L k h
  obtain ⟨e1, e2, e3⟩ := at_lf h1
  have : ownL L k = (L.drop (startN k L)).take i := by
    unfold ownL
    conv => lhs; rw [e1]
    rw [cut_at _ _ e2]
  rw [h2, this, List.length_take]
  omega

/-! ### Split -/
def strV (l : List UInt8) : Value := .string ⟨l.toArray⟩
def strsV (ls : List (List UInt8)) : List Value := ls.map strV
theorem strs_len (ls : List (List UInt8)) : (strsV ls).length = ls.length := List.length_map _
theorem strs_app (a b : List (List UInt8)) : strsV (a ++ b) = strsV a ++ strsV b := List.map_append
theorem strs_plain (ls : List (List UInt8)) : ∀ u ∈ strsV ls, u.oneCell' = true := by
  intro u hu
  obtain ⟨l, _, rfl⟩ := List.mem_map.1 hu
  rfl
theorem infoStr : (Tryd.prog.info? 9).map (fun i => (i.zero, i.size, i.bytes)) = some (some (.string ⟨#[]⟩), 1, 16) := by kernel_rfl
theorem cell_oneS (W : World) (v : Value) (t : TypeId) : ∀ (j : Nat) (u : Value), ([v] : List Value)[j]? = some u → (W.alloc (.cells #[v] t)).cell? ((⟨W.heap.size, 0, none⟩ : Addr).add j) = some u := by
  intro j u hu
  rw [add_off, Nat.zero_add, World.cell?_alloc_mark]
  simpa using hu
theorem ext_list (s : ByteArray) (a b : Nat) : s.extract a b = ⟨((s.data.toList.drop a).take (b - a)).toArray⟩ := by
  apply ByteArray.ext
  apply Array.ext'
  rw [ByteArray.data_extract, Array.toList_extract, List.extract_eq_take_drop]
def SplitPost (L : List UInt8) (w : World) (e : Ending) (w' : World) : Prop := ∃ v, e = .returned v ∧ RowKit.Hid (v ≠ .slice none 0 0 ∧ w'.ownsRow w.heap.size 9 1 v (linesF L).length (strsV (linesF L))) ∧ Below w.heap.size w w'
def OwnS (b : Nat) (ls : List (List UInt8)) (v : Value) (w : World) : Prop := v ≠ .slice none 0 0 ∧ w.ownsRow b 9 1 v ls.length (strsV ls)
theorem ownS_next {w W1 w3 : World} {l : List (List UInt8)} {x : List UInt8} {v v' : Value} {o : Obj} (hb : Below w.heap.size w W1) (ho : W1.ownsRow w.heap.size 9 1 v l.length (strsV l))
    (hown : w3.ownsRow w.heap.size 9 1 v' (l.length + 1) (strsV l ++ strsV [x])) (hg : (W1.alloc o).grownBy w3 v.ownBlock) (hnil : v' = .slice none 0 0 ↔ v = .slice none 0 0 ∧ 1 = 0) :
    OwnS w.heap.size (l ++ [x]) v' w3 ∧ Below w.heap.size w w3 := by
  refine ⟨⟨fun e => absurd (hnil.1 e).2 (by decide), ?_⟩, (hb.alloc hb.size o).grown hg (by have := hb.size; simp; omega) (fun j e => (ho.lt j e).1)⟩
  rw [strs_app, List.length_append]
  exact hown
/-- what the loop has done. -/
def SplR (L : List UInt8) (out : List (List UInt8)) (f k : Nat) : Prop := linesF L = out ++ linesF (L.drop f) ∧ (10 : UInt8) ∉ (L.drop f).take (k - f)
theorem splR_zero (L : List UInt8) : SplR L [] 0 0 := ⟨by simp, by simp⟩
theorem part_step (L : List UInt8) (f k : Nat) (hf : f ≤ k) (hk : k < L.length) : (L.drop f).take (k + 1 - f) = (L.drop f).take (k - f) ++ [L[k]] := by
  have h1 : k - f < (L.drop f).length := by rw [List.length_drop]; omega
  rw [show k + 1 - f = k - f + 1 by omega, List.take_succ_eq_append_getElem h1, List.getElem_drop]
  congr 3
  omega
theorem splR_on {L : List UInt8} {out : List (List UInt8)} {f k : Nat} (h : SplR L out f k) (hf : f ≤ k) (hk : k < L.length) (hc : L[k] ≠ 10) : SplR L out f (k + 1) := by
  refine ⟨h.1, ?_⟩
  rw [part_step L f k hf hk, List.mem_append, not_or]
  exact ⟨h.2, by simpa using fun e => hc e.symm⟩
theorem splR_cut {L : List UInt8} {out : List (List UInt8)} {f k : Nat} (h : SplR L out f k) (hf : f ≤ k) (hk : k < L.length) (hc : L[k] = 10) : SplR L (out ++ [(L.drop f).take (k - f)]) (k + 1) (k + 1) := by
  refine ⟨?_, by simp⟩
  have h1 : k - f < (L.drop f).length := by rw [List.length_drop]; omega
  have e : L.drop f = (L.drop f).take (k - f) ++ 10 :: L.drop (k + 1) := by
    conv => lhs; rw [← List.take_append_drop (k - f) (L.drop f)]
    rw [List.drop_drop, show f + (k - f) = k by omega, List.drop_eq_getElem_cons hk, hc]
  rw [h.1]
  conv => lhs; rw [e]
  rw [lines_cut _ _ h.2, List.append_assoc]
  rfl
theorem splR_end {L : List UInt8} {out : List (List UInt8)} {f : Nat} (h : SplR L out f L.length) : linesF L = out ++ [L.drop f] := by
  have h2 := h.2
  rw [List.take_of_length_le (by rw [List.length_drop]; exact Nat.le_refl _)] at h2
  rw [h.1, lines_one _ h2]
set_option maxHeartbeats 1000000 in
theorem split7_any (s : ByteArray) (w : World) (hs : s.size ≤ 1099511627776) :
    Calls Tryd.prog 43 #[.string s] w (SplitPost s.data.toList w) := by
  obtain ⟨i0, hi, hz0, hz1, hz2⟩ := info_parts infoStr
  have HL := Lib.hid (show s.data.toList.length = s.size by simp)
  have HO := Lib.hid (World.ownsRow_lit (e := 9) (size := 1) w #[] 0 (Nat.le_refl _) (by unfold maxLen; omega) rfl)
  have HX := Lib.hid (ext_list s)
  go_enter Tryd.func43, Tryd.ntmps43
  go_wp2
  go_loopw [3, 4, 5] (fun u f i wr => ∃ (k g : Nat) (out : List (List UInt8)), k ≤ s.size ∧ g ≤ k ∧ out.length ≤ k ∧ f = .int .i64 g ∧ i = .int .i64 k ∧ RowKit.Hid (SplR s.data.toList out g k) ∧ RowKit.Hid (OwnS w.heap.size out u wr) ∧ RowKit.Hid (Below w.heap.size w wr)) (fun _ _ i _ => s.size - (RowKit.intOf i).toNat)
  case atStart => exact ⟨0, 0, [], by omega, by omega, by simp, rfl, rfl, splR_zero _, ⟨by simp, HO.out⟩, (Below.refl _ _).alloc (Nat.le_refl _) _⟩
  case round =>
    obtain ⟨k, g, out, hk, hgk, hol, rfl, rfl, HR, HOW, HB⟩ := hrel
    have hsz : w.heap.size ≤ wr.heap.size := HB.out.size
    have HOO := Lib.hid HOW.out.2
    by_cases hlt : k < s.size
    · have hki : (k : Int) < s.size := by omega
      have hlk : k < s.data.toList.length := by rw [HL.out]; exact hlt
      cases hb : ((s[k].toNat : Int) == 10)
      · have HST := Lib.hid (splR_on HR.out hgk hlk (fun e => by
          have e2 : s[k] = 10 := e
          rw [e2] at hb
          exact absurd hb (by decide)))
        go_wp2
        go_roundw
        case rel => exact ⟨k + 1, g, out, by omega, by omega, by omega, rfl, by go_num, HST.out, HOW.out, HB.out⟩
        case measure => simp [RowKit.intOf]; omega
      · have HST := Lib.hid (splR_cut HR.out hgk hlk (show s[k] = 10 from UInt8.toNat_inj.1 (by have h := beq_iff_eq.1 hb; have h10 : (10 : UInt8).toNat = 10 := rfl; omega)))
        have HXE := Lib.hid (HX.out g k)
        go_wp2_with (at_builtin; refine wpList_append_own _ rfl _ _ 49 rfl w.heap.size 9 i0 _ 1 16 Tryd.underlying49 hi hz0 hz1 hz2 rfl (by decide) _ _ _ rfl (HOO.out.alloc _) ⟨wr.heap.size, 0, none⟩ 1 1 (strsV [(s.data.toList.drop g).take (k - g)]) rfl rfl (by rw [HXE.out]; exact cell_oneS _ _ _) (strs_plain _) (by unfold maxLen; omega) (by omega) (by simp; omega) ?_; intro v3 w3 hown' hgrow hnil; have HNX := Lib.hid (ownS_next HB.out HOO.out hown' hgrow hnil); clear hown' hgrow hnil)
        go_roundw
        case rel => exact ⟨k + 1, k + 1, _, by omega, by omega, by simp; omega, by go_num, by go_num, HST.out, HNX.out.1, HNX.out.2⟩
        case measure => simp [RowKit.intOf]; omega
    · have hki : ¬ (k : Int) < s.size := by omega
      have hks : k = s.size := by omega
      have HST := Lib.hid (splR_end (L := s.data.toList) (out := out) (f := g) (by rw [HL.out, ← hks]; exact HR.out))
      have hg2 : g ≤ s.size := by omega
      have hgi : ¬ (s.size : Int) < g := by omega
      have HXE := Lib.hid (show s.extract g s.size = ⟨(s.data.toList.drop g).toArray⟩ by
        rw [HX.out, List.take_of_length_le (by rw [List.length_drop, HL.out]; exact Nat.le_refl _)])
      clear hks
      go_wp2_with (at_builtin; refine wpList_append_own _ rfl _ _ 49 rfl w.heap.size 9 i0 _ 1 16 Tryd.underlying49 hi hz0 hz1 hz2 rfl (by decide) _ _ _ rfl (HOO.out.alloc _) ⟨wr.heap.size, 0, none⟩ 1 1 (strsV [s.data.toList.drop g]) rfl rfl (by rw [HXE.out]; exact cell_oneS _ _ _) (strs_plain _) (by unfold maxLen; omega) (by omega) (by simp; omega) ?_; intro v3 w3 hown' hgrow hnil; have HNX := Lib.hid (ownS_next HB.out HOO.out hown' hgrow hnil); clear hown' hgrow hnil)
      go_ret
      exact ⟨_, rfl, by rw [HST.out]; exact HNX.out.1, HNX.out.2⟩
end Go.Proofs.YtdeihlbnlogjcaaDoor
namespace Go.Proofs.YtdeihlbnlogjcaaDoor
open Go.RowKit Go.Lib Go.Shelf
set_option maxRecDepth 100000
set_option linter.unusedVariables false

/-- the reference's Valid of '[]byte(s)'. -/
theorem rvalid_conv (X : ByteArray) (hX : X.size ≤ 1099511627776) (g cap : Nat) (o : Obj) (W M : World) (hM : M.heap = W.heap) (hMb : Below W.heap.size W M) (hg : g = W.heap.size) (hc : X.size ≤ cap)
    (hcells : ∀ (j : Nat) (u : Value), (bytesV X.data.toList)[j]? = some u → (M.alloc o).cell? ((⟨W.heap.size, 0, none⟩ : Addr).add j) = some u) :
    Calls Tryd.prog 22 #[.slice (some ⟨g, 0, none⟩) X.size cap] (M.alloc o) fun e w' => e = .returned (.int .i64 (Ut.validP X.data.toList : Nat)) ∧ Below W.heap.size W w' := by
  subst hg
  have hs : M.heap.size = W.heap.size := by rw [hM]
  have hb : Below W.heap.size W (M.alloc o) := hMb.alloc (by omega) o
  have hl : X.data.toList.length = X.size := by simp
  refine (rvalid_any first_c (.slice (some ⟨W.heap.size, 0, none⟩) X.size cap) X.data.toList (M.alloc o) _ (Nat.le_refl _) ?_ (by omega)).mono fun e w' h => ⟨h.1, hb.trans (h.2.mono hb.size)⟩
  refine ⟨by rw [bytesV_len, Nat.mul_one], _, _, by rw [hl], by omega, fun _ => ⟨W.heap.size, 0, rfl, by rw [World.size_alloc]; omega, fun j hj => ?_⟩⟩
  have hj2 : j < X.data.toList.length := by omega
  have h := hcells j _ (bytesV_get _ j hj2)
  rw [add_off] at h
  rw [h, bytesV_get _ j hj2]
theorem strV_cell {w : World} {g o N : Nat} {L : List UInt8} (hr : ∀ j, j < N * 1 → w.cell? ⟨g, o + j, none⟩ = (strsV (linesF L))[j]?) (hN : N = Lib.countByte L 10 + 1) {k : Nat} (hk : k < N) : w.cell? ⟨g, o + k, none⟩ = some (.string ⟨(ownL L k).toArray⟩) := by
  rw [hr k (by omega)]
  unfold strsV
  rw [List.getElem?_map, lines_get L k (by omega)]
  rfl
theorem own_len (L : List UInt8) (k : Nat) (h : k ≤ Lib.countByte L 10) : startN k L + (ownL L k).length ≤ L.length := by
  obtain ⟨h1, -⟩ := start_spec L k h
  have : (ownL L k).length ≤ (L.drop (startN k L)).length := by
    unfold ownL Lib.cut
    split
    · simp
      omega
    · simp
  rw [List.length_drop] at this
  omega
set_option maxHeartbeats 1500000 in
theorem roffset7_any (s : ByteArray) (line char : Int) (w : World) (hs : s.size ≤ 1099511627) :
    Calls Tryd.prog 41 #[.string s, .int .i64 line, .int .i64 char] w fun e w' => e = .returned (.tuple #[.int .i64 (tOffA s.data.toList line char), .int .i64 (tOffK s.data.toList line char)]) ∧ Below w.heap.size w w' := by
  have hL : s.data.toList.length = s.size := by simp
  have hcl := count_le s.data.toList
  rw [hL] at hcl
  obtain ⟨capF, objF, hcb, hnews, hcap⟩ := conv_bytes (P := Tryd.prog) s 9 22 5 Tryd.underlying9 Tryd.underlying22 Tryd.underlying5
  obtain ⟨p, hp⟩ : ∃ p : Nat, p = Ut.validP s.data.toList := ⟨_, rfl⟩
  have hv0 : Calls Tryd.prog 22 #[.slice (some ⟨w.heap.size, 0, none⟩) s.size (capF w)] ((w.alloc (objF w)).drew) fun e w' => e = .returned (.int .i64 (p : Nat)) ∧ Below w.heap.size w w' := by
    rw [hp]
    exact rvalid_conv s (by omega) w.heap.size (capF w) (objF w) w w.drew rfl ((Below.refl _ _).drew) rfl (hcap _) (fun j u hu => hnews w w.drew j u rfl hu)
  have HV := Lib.hid hv0
  have hvi := Ut.validD_iff s.data.toList
  rw [hL, ← hp] at hvi
  have hple : p ≤ s.size := by
    rw [hp]
    have := (Ut.validP_front _ s.data.toList (Nat.le_refl _)).1
    rw [hL] at this
    exact this
  have HVI := Lib.hid hvi
  have HL := Lib.hid hL
  clear hnews hcap hp hv0 hvi hL
  by_cases hps : p = s.size
  · have HVD := Lib.hid (HVI.out.2 hps)
    have hpi : ¬ (p : Int) < s.size := by omega
    obtain ⟨n, hn⟩ : ∃ n, n = Lib.countByte s.data.toList 10 := ⟨_, rfl⟩
    have HN := Lib.hid hn
    rw [← hn] at hcl
    clear hn hps
    go_enter Tryd.func41, Tryd.ntmps41
    go_wp2_with (first | (go_at_call 22; with_reducible (refine HV.out.mono ?_); rintro e w1 ⟨rfl, hb1⟩; have HB1 := Lib.hid hb1; clear hb1))
    refine (split7_any s w1 (by omega)).mono ?_
    rintro e w2 ⟨v, rfl, ho, hb2⟩
    have HB2 := Lib.hid (HB1.out.trans (hb2.mono HB1.out.size))
    have hrd := Rd.of_own ho.out.2
    rw [lines_len, ← HN.out] at hrd
    obtain ⟨-, A, c, rfl, hc, hr⟩ := hrd
    obtain ⟨g, o, rfl, hg, hr⟩ := hr (by omega)
    have HR := Lib.hid hr
    clear hb2 ho hr
    by_cases h0 : line < 0
    · have HX := Lib.hid (show tOffA s.data.toList line char = 0 ∧ tOffK s.data.toList line char = 70 by
        unfold tOffA tOffK
        rw [if_neg (fun h => by omega), if_pos HVD.out, if_neg (fun h => by omega)]
        exact ⟨rfl, rfl⟩)
      go_wp2
      go_ret2
      exact ⟨by rw [HX.out.1, HX.out.2]; rfl, HB2.out⟩
    · by_cases h1 : line ≥ (n : Int) + 1
      · have HX := Lib.hid (show tOffA s.data.toList line char = 0 ∧ tOffK s.data.toList line char = 70 by
          have hnn := HN.out
          unfold tOffA tOffK
          rw [if_neg (fun h => by omega), if_pos HVD.out, if_neg (fun h => by omega)]
          exact ⟨rfl, rfl⟩)
        go_wp2
        go_ret2
        exact ⟨by rw [HX.out.1, HX.out.2]; rfl, HB2.out⟩
      · obtain ⟨m, rfl⟩ : ∃ m : Nat, line = m := ⟨line.toNat, by omega⟩
        have hmn : m < n + 1 := by omega
        have hmi : (m : Int) < (n : Int) + 1 := by omega
        have c0 := strV_cell HR.out (by rw [HN.out]) hmn
        obtain ⟨O, hO⟩ : ∃ O : ByteArray, O = ⟨(ownL s.data.toList m).toArray⟩ := ⟨_, rfl⟩
        have hOl : O.data.toList = ownL s.data.toList m := by rw [hO]
        have hwl := own_len s.data.toList m (by have := HN.out; omega)
        rw [HL.out] at hwl
        have hOs : O.size = (ownL s.data.toList m).length := by rw [← hOl]; simp
        rw [← hO] at c0
        have HOL := Lib.hid hOl
        clear hO hOl
        have HOF := Lib.hid (fun W => roffset_any first_c O char W (by omega))
        rw [HOL.out] at HOF
        have hab := offA_bound (ownL s.data.toList m) char
        obtain ⟨a, ha⟩ : ∃ a, a = offA (ownL s.data.toList m) char := ⟨_, rfl⟩
        obtain ⟨kk, hkk⟩ : ∃ a, a = offK (ownL s.data.toList m) char := ⟨_, rfl⟩
        have HA := Lib.hid (And.intro ha hkk)
        rw [← ha] at hab
        obtain ⟨ha0, ha1⟩ := hab
        obtain ⟨st, hst⟩ : ∃ st, st = startN m s.data.toList := ⟨_, rfl⟩
        have HST := Lib.hid hst
        rw [← hst] at hwl
        have hab2 : a + st ≤ s.size := by omega
        clear hst hOs ha1 hwl ha hkk
        go_wp2_with fail
        refine (HOF.out w2).mono ?_
        rintro e w3 h
        obtain ⟨rfl, hb3⟩ := h.one
        rw [← HA.out.1, ← HA.out.2]
        have HB3 := Lib.hid (HB2.out.trans (hb3.mono HB2.out.size))
        have HR3 := Lib.hid (show ∀ j, j < (n + 1) * 1 → w3.cell? ⟨g, o + j, none⟩ = (strsV (linesF s.data.toList))[j]? from fun j hj => (hb3.cell (p := ⟨g, o + j, none⟩) hg).trans (HR.out j hj))
        have hg3 : g < w3.heap.size := by have := hb3.size; omega
        have HMN := Lib.hid (show (m : Int) ≤ (Lib.countByte s.data.toList 10 : Int) by have := HN.out; omega)
        clear hb3 h c0
        by_cases hk0 : kk = 0
        · have HF := Lib.hid (show tOffA s.data.toList m char = st + a ∧ tOffK s.data.toList m char = 0 by
            unfold tOffA tOffK
            rw [Int.toNat_natCast, ← HA.out.2, ← HA.out.1, ← HST.out, if_pos ⟨HVD.out, by omega, HMN.out, hk0⟩, if_pos HVD.out, if_pos ⟨by omega, HMN.out, hk0⟩]
            exact ⟨rfl, rfl⟩)
          go_wp2
          go_loopw [9, 11] (fun z i wr => ∃ k S : Nat, k ≤ m ∧ S ≤ s.size ∧ z = .int .i64 (a + S) ∧ i = .int .i64 k ∧ RowKit.Hid (S = startN k s.data.toList) ∧ RowKit.Hid (Below w3.heap.size w3 wr)) (fun _ i _ => m - (RowKit.intOf i).toNat)
          case atStart => exact ⟨0, 0, by omega, by omega, by simp, rfl, rfl, Below.refl _ _⟩
          case round =>
            obtain ⟨k, S, hk, hS, rfl, rfl, HS, HB⟩ := hrel
            by_cases hkm : k < m
            · have hki : (k : Int) < m := by omega
              have hkn : k < n + 1 := by omega
              have c1 := (HB.out.cell (p := ⟨g, o + k, none⟩) hg3).trans (strV_cell HR3.out (by rw [HN.out]) hkn)
              obtain ⟨Q, hQ⟩ : ∃ O : ByteArray, O = ⟨(ownL s.data.toList k).toArray⟩ := ⟨_, rfl⟩
              have hQl : Q.size = (ownL s.data.toList k).length := by rw [hQ]; rfl
              have hso := start_own s.data.toList k (by have := HN.out; omega)
              rw [← HS.out, ← hQl] at hso
              have hsb := (start_spec s.data.toList (k + 1) (by have := HN.out; omega)).1
              rw [hso, HL.out] at hsb
              rw [← hQ] at c1
              have HSO := Lib.hid hso
              clear hQ hQl hso
              go_wp2
              go_roundw
              case rel => exact ⟨k + 1, S + (Q.size + 1), by omega, by omega, by go_num, by go_num, HSO.out.symm, HB.out⟩
              case measure => (simp [RowKit.intOf] <;> omega)
            · have hki : ¬ (k : Int) < m := by omega
              have hkm2 : k = m := by omega
              have HSS := Lib.hid (show S = st by rw [HS.out, HST.out, hkm2])
              clear hkm2
              go_wp2
              go_ret2
              exact ⟨by rw [HF.out.1, HF.out.2, ← HSS.out, Int.add_comm]; rfl, HB3.out.trans (HB.out.mono HB3.out.size)⟩
        · have HF := Lib.hid (show tOffA s.data.toList m char = 0 ∧ tOffK s.data.toList m char = 70 by
            unfold tOffA tOffK
            rw [Int.toNat_natCast, ← HA.out.2, if_neg (fun h => hk0 h.2.2.2), if_pos HVD.out, if_neg (fun h => hk0 h.2.2)]
            exact ⟨rfl, rfl⟩)
          go_wp2
          go_ret2
          exact ⟨by rw [HF.out.1, HF.out.2]; rfl, HB3.out⟩
  · have HX := Lib.hid (show tOffA s.data.toList line char = 0 ∧ tOffK s.data.toList line char = 40 by
      have hv : ¬ validD s.data.toList = true := fun h => hps (HVI.out.1 h)
      unfold tOffA tOffK
      rw [if_neg (fun h => hv h.1), if_neg hv]
      exact ⟨rfl, rfl⟩)
    have hpi : (p : Int) < s.size := by omega
    go_enter Tryd.func41, Tryd.ntmps41
    go_wp2_with (first | (go_at_call 22; with_reducible (refine HV.out.mono ?_); rintro e w1 ⟨rfl, hb1⟩; have HB1 := Lib.hid hb1; clear hb1))
    go_ret2
    exact ⟨by rw [HX.out.1, HX.out.2]; rfl, HB1.out⟩
end Go.Proofs.YtdeihlbnlogjcaaDoor
