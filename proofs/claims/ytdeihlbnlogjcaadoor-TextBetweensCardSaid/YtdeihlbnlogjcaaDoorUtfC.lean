/- The contract of utf's Runes. -/
import Derived.Test.YtdeihlbnlogjcaaDoorUtfB
import Derived.Lib.OthersKept
import Derived.Laws.MakeOwn
namespace Go.Proofs.YtdeihlbnlogjcaaDoor
open Go.RowKit Go.Lib Go.Shelf
set_option maxRecDepth 100000
set_option linter.unusedVariables false
set_option linter.unusedSectionVars false

/-- what is said of utf8.ValidString. -/
def VS : Prop := ∀ (s : ByteArray) (w : World), s.size ≤ 9223372036854775807 → Tabs w → Calls Tryd.prog 54 #[.string s] w fun e w' => e = .returned (.bool (validD s.data.toList)) ∧ Below w.heap.size w w'
theorem infoInt : (Tryd.prog.info? 3).map (fun i => (i.zero, i.size, i.bytes)) = some (some (.int .i64 0), 1, 8) := by kernel_rfl
def intsV (l : List Int) : List Value := l.map (Value.int .i64)
theorem intsV_len (l : List Int) : (intsV l).length = l.length := by simp [intsV]
theorem intsV_app (a b : List Int) : intsV (a ++ b) = intsV a ++ intsV b := by simp [intsV]
theorem intsV_plain (l : List Int) : ∀ u ∈ intsV l, u.oneCell' = true := by
  intro u hu
  simp only [intsV, List.mem_map] at hu
  obtain ⟨x, _, rfl⟩ := hu
  rfl
theorem intsV_get {l : List Int} {k : Nat} {x : Int} (h : l[k]? = some x) : (intsV l)[k]? = some (.int .i64 x) := by simp [intsV, h]
/-- a slice of ints of the call's own, not nil. -/
def Ints (base : Nat) (l : List Int) (v : Value) (w : World) : Prop := v ≠ .slice none 0 0 ∧ w.ownsRow base 3 1 v l.length (intsV l)
theorem Ints.rd {base : Nat} {l : List Int} {v : Value} {w : World} (h : Ints base l v w) : Rd w w.heap.size 1 v l.length (intsV l) := Rd.of_own h.2
theorem own_iter {w : World} {base : Nat} {e : TypeId} {size : Nat} {v : Value} {n : Nat} {xs : List Value} (h : w.ownsRow base e size v n xs) {k : Nat} {s : ByteArray} {p : Nat} (hk : w.heap[k]? = some (.stringIter s p)) (q : Nat) : (w.iterAt k s q).ownsRow base e size v n xs := by
  obtain ⟨h1, h2⟩ := h
  refine ⟨h1, ?_⟩
  rcases h2 with h2 | ⟨g, cap, cur, a, b, c, d⟩
  · exact .inl h2
  · refine .inr ⟨g, cap, cur, a, b, ?_, d⟩
    rw [Lib.iterAt_other _ _ _ _ _ (fun e => by rw [e, hk] at c; cases c)]
    exact c
theorem own_not_iter {w : World} {base : Nat} {e : TypeId} {size : Nat} {v : Value} {n : Nat} {xs : List Value} (h : w.ownsRow base e size v n xs) {k : Nat} {s : ByteArray} {p : Nat} (hk : w.heap[k]? = some (.stringIter s p)) : v.ownBlock ≠ some k := by
  intro hv
  rcases h.2 with ⟨rfl, _⟩ | ⟨g, cap, cur, rfl, b, c, d⟩
  · simp [Value.ownBlock] at hv
  · simp [Value.ownBlock] at hv
    rw [hv, hk] at c
    cases c
theorem Ints.made {W : World} {B n : Nat} (hn : n ≤ 1099511627776) (hB : B ≤ W.heap.size) : Ints B [] (.slice (some ⟨W.heap.size, 0, none⟩) 0 n) (W.alloc (Obj.cells (madeCells #[Value.int IntKind.i64 0] n) 3)) := by
  refine ⟨by simp, ?_⟩
  have := World.ownsRow_made (e := 3) (size := 1) W (madeCells #[Value.int IntKind.i64 0] n) n hB (by unfold maxLen; omega) (by rw [size_madeCells, Nat.mul_one])
  simpa [intsV] using this
theorem Ints.alloc {base : Nat} {l : List Int} {v : Value} {w : World} (h : Ints base l v w) (o : Obj) : Ints base l v (w.alloc o) := ⟨h.1, h.2.alloc o⟩
theorem Ints.iter {base : Nat} {l : List Int} {v : Value} {w : World} (h : Ints base l v w) (s : ByteArray) (p : Nat) : Ints base l v (w.iter s p) := h.alloc _
theorem runes_next {w W1 w3 : World} {k p : Nat} {s : ByteArray} {acc : List Int} {R : Int} {v v' : Value} {o : Obj} (hit : W1.heap[k]? = some (.stringIter s p)) (hb : Below w.heap.size w W1) (ho : W1.ownsRow w.heap.size 3 1 v acc.length (intsV acc))
    (hown : w3.ownsRow w.heap.size 3 1 v' (acc.length + 1) (intsV acc ++ intsV [R])) (hg : (W1.alloc o).grownBy w3 v.ownBlock) (hnil : v' = .slice none 0 0 ↔ v = .slice none 0 0 ∧ 1 = 0) (hne : v ≠ .slice none 0 0) (hk : w.heap.size ≤ k) :
    w3.heap[k]? = some (.stringIter s p) ∧ Ints w.heap.size (acc ++ [R]) v' w3 ∧ Below w.heap.size w w3 := by
  have hlt : k < W1.heap.size := (Array.getElem?_eq_some_iff.1 hit).1
  refine ⟨?_, ⟨fun e => hne (hnil.1 e).1, ?_⟩, (hb.alloc hb.size o).grown hg (by have := hb.size; simp; omega) (fun j e => (ho.lt j e).1)⟩
  · rw [hg.block k (by simp; omega) (fun e => own_not_iter ho hit e.symm), Below.heap_alloc _ _ _ hlt]
    exact hit
  · rw [intsV_app, List.length_append]
    exact hown
def RunesPost (L : List UInt8) (w : World) (e : Ending) (w' : World) : Prop :=
  (if validD L = true then ∃ v, e = .returned (.tuple #[v, .int .i64 0]) ∧ Ints w.heap.size (Ut.runesF L) v w' else e = .returned (.tuple #[.slice none 0 0, .int .i64 40])) ∧ Below w.heap.size w w'
set_option maxHeartbeats 2000000 in
theorem runes_any (hvs : VS) (s : ByteArray) (w : World) (hs : s.size ≤ 1099511627776) (hT : Tabs w) :
    Calls Tryd.prog 24 #[.string s] w (RunesPost s.data.toList w) := by
  obtain ⟨i0, hi, hz0, hz1, hz2⟩ := info_parts infoInt
  have HVS := Lib.hid (hvs s w (by omega) hT)
  cases hv : validD s.data.toList
  · rw [hv] at HVS
    go_enter Tryd.func24, Tryd.ntmps24
    go_wp2_with (first | (go_at_call 54; with_reducible (refine HVS.out.mono ?_); rintro e w1 ⟨rfl, hb1⟩; have HB1 := Lib.hid hb1; clear hb1))
    go_ret2
    exact ⟨by rw [hv]; rfl, HB1.out⟩
  · rw [hv] at HVS
    have HV := Lib.hid hv
    clear hv
    have hmk := fun W : World => run_make (P := Tryd.prog) W 27 3 i0 _ Tryd.underlying27 hi hz0 .i64 .i64 0 s.size (by omega) (by omega) (by rw [hz2]; omega) (by omega)
    simp only [Int.toNat_zero, Int.toNat_natCast, hz1, Nat.mul_one] at hmk
    go_enter Tryd.func24, Tryd.ntmps24
    go_wp2_with (first | (go_at_call 54; with_reducible (refine HVS.out.mono ?_); rintro e w1 ⟨rfl, hb1⟩; have HB1 := Lib.hid hb1; have hs1 := hb1.size; clear hb1))
    have hmade := Ints.made (W := w1) (B := w.heap.size) (n := s.size) (by omega) hs1
    obtain ⟨M, hM⟩ : ∃ M, M = w1.alloc (Obj.cells (madeCells #[Value.int IntKind.i64 0] s.size) 3) := ⟨_, rfl⟩
    rw [← hM] at hmade ⊢
    have hMs : w1.heap.size + 1 = M.heap.size := by rw [hM]; simp
    have HBM := Lib.hid (show Below w.heap.size w M by rw [hM]; exact HB1.out.alloc hs1 _)
    have HMA := Lib.hid hmade
    have hMl : w.heap.size ≤ M.heap.size := HBM.out.size
    rw [hMs]
    clear hM hmade hmk hMs
    go_loopw [4] (fun v wr => ∃ (pos : Nat) (acc : List Int), pos ≤ s.size ∧ acc.length ≤ pos ∧ RowKit.Hid (wr.heap[M.heap.size]? = some (.stringIter s pos)) ∧ RowKit.Hid (Ints w.heap.size acc v wr) ∧ RowKit.Hid (Below w.heap.size w wr) ∧ RowKit.Hid (acc ++ Ut.runesF (s.data.toList.drop pos) = Ut.runesF s.data.toList)) (fun _ wr => s.size - wr.iterPos M.heap.size)
    case atStart => exact ⟨0, [], by omega, by simp, World.iter_heap M s 0, HMA.out.iter s 0, HBM.out.alloc (by omega) _, by simp [RowKit.Hid]⟩
    case round =>
      obtain ⟨pos, acc, hpos, hal, HIT, HI, HB, HACC⟩ := hrel
      by_cases hp : pos < s.size
      · obtain ⟨R, K, hRK⟩ : ∃ R K, Utf8.decode s pos = (R, K) := ⟨_, _, rfl⟩
        have hdl := decodeL_drop s pos
        rw [hRK] at hdl
        have hne : s.data.toList.drop pos ≠ [] := by
          intro e
          have := congrArg List.length e
          simp at this
          omega
        have hR := decodeL_rune (s.data.toList.drop pos)
        have hK1 := decodeL_width (s.data.toList.drop pos)
        have hK2 := decodeL_le _ hne
        have hst := Ut.runes_step _ hne
        rw [hdl] at hR hK1 hK2 hst
        simp only [List.length_drop] at hR hK1 hK2 hst
        have hL : s.data.toList.length = s.size := by simp
        rw [hL] at hK2
        have HA2 := Lib.hid (show (acc ++ [(R : Int)]) ++ Ut.runesF (s.data.toList.drop (pos + K)) = Ut.runesF s.data.toList by
          rw [← HACC.out, hst, List.drop_drop]
          simp)
        have hnx : ∀ ty, (Instr.next (.pointer (some ⟨M.heap.size, 0, none⟩)) true ty).run Tryd.prog wr = _ := fun ty => Lib.run_next_any_at wr M.heap.size s pos ty HIT.out hp
        rw [hRK] at hnx
        simp only at hnx
        have HIT2 := Lib.hid (Lib.iterAt_heap wr M.heap.size s pos (pos + K) HIT.out)
        have HB2 := Lib.hid (Lib.below_iterAt HB.out (k := M.heap.size) (by omega) s (pos + K))
        have HO2 := Lib.hid (own_iter HI.out.2 HIT.out (pos + K))
        have hne2 := HI.out.1
        have HPOS := Lib.hid (iterPos_of HIT.out)
        obtain ⟨W1, hW1⟩ : ∃ W1, W1 = wr.iterAt M.heap.size s (pos + K) := ⟨_, rfl⟩
        rw [← hW1] at hnx HIT2 HB2 HO2
        have hR2 : (R : Int) ≤ 1114111 := by omega
        clear hW1 hRK hdl hne hst hL
        go_wp2_with (at_builtin; refine wpList_append_own _ rfl _ _ 27 rfl w.heap.size 3 i0 _ 1 8 Tryd.underlying27 hi hz0 hz1 hz2 rfl (by decide) _ _ _ rfl (HO2.out.alloc _) ⟨W1.heap.size, 0, none⟩ 1 1 (intsV [(R : Int)]) rfl rfl (cell_one_new _ _ _) (intsV_plain _) (by unfold maxLen; omega) (by omega) (by have := HB2.out.size; simp; omega) ?_; intro v' w3 hown' hgrow hnil; have HST := Lib.hid (runes_next HIT2.out HB2.out HO2.out hown' hgrow hnil hne2 (by omega)); clear hown' hgrow hnil)
        go_roundw
        case rel => exact ⟨pos + K, acc ++ [(R : Int)], by omega, by rw [List.length_append]; simp; omega, HST.out.1, HST.out.2.1, HST.out.2.2, HA2⟩
        case measure => rw [iterPos_of HST.out.1, HPOS.out]; omega
      · have hnx : ∀ ty, (Instr.next (.pointer (some ⟨M.heap.size, 0, none⟩)) true ty).run Tryd.prog wr = _ := fun ty => Lib.run_next_end_at wr M.heap.size s pos ty HIT.out hp
        have hac : acc = Ut.runesF s.data.toList := by
          have h := HACC.out
          rw [List.drop_eq_nil_of_le (by simp; omega), Ut.runes_nil, List.append_nil] at h
          exact h
        have HAC := Lib.hid hac
        clear hac
        go_wp2
        go_ret2
        refine ⟨?_, HB.out⟩
        rw [if_pos HV.out, ← HAC.out]
        exact ⟨_, rfl, HI.out⟩
end Go.Proofs.YtdeihlbnlogjcaaDoor
