/- strings.ContainsAny(s, "\r\n") at every s: the road of at most eight bytes, and both. -/
import Derived.Test.YtphnplpgeoleeaaDoorFraB
namespace Go.Proofs.YtphnplpgeoleeaaDoor
open Go.RowKit Go.Lib
set_option maxRecDepth 100000
set_option linter.unusedVariables false

theorem idxRune_high (r : Nat) (w : World) (h128 : 128 ≤ r) (hmax : r ≤ 1114111) (hv : Utf8.valid (r : Int) = true) : Calls Tryd.prog 70 #[.string crlf, .int .i32 r] w fun e w' => e = .returned (.int .i64 (-1)) ∧ Below w.heap.size w w' := by
  by_cases h : r = 65533
  · subst h
    exact idxRune_err w
  · exact idxRune_valid r w (by omega) (by omega) (by omega) hv
theorem decode_max (s : ByteArray) (pos : Nat) : (Utf8.decode s pos).1 ≤ 1114111 := by
  have hb : ∀ k, (s.get! (pos + k)).toNat < 256 := fun k => (s.get! (pos + k)).toNat_lt
  have h0 := hb 0; have h1 := hb 1; have h2 := hb 2; have h3 := hb 3
  simp only [Utf8.decode]
  repeat' split
  all_goals simp_all [Utf8.runeError, Utf8.valid]
  all_goals omega
theorem idxByte_crlf (c : UInt8) : decide (0 ≤ Lib.indexByte crlf.data.toList c) = !(noLB c) := by
  rw [← Lib.contains_iff_indexByte]
  show ([13, 10] : List UInt8).contains c = _
  unfold noLB
  simp only [List.contains_cons, List.contains_nil, Bool.or_false, Bool.not_and]
  by_cases h1 : c = 13 <;> by_cases h2 : c = 10 <;> simp [h1, h2]
theorem indexAny_crlf (l : List UInt8) : decide (0 ≤ Lib.indexAny l crlf.data.toList) = !(l.all noLB) := by
  induction l with
  | nil => rfl
  | cons c l ih =>
    rw [Lib.indexAny, Lib.contains_iff_indexByte, idxByte_crlf, List.all_cons]
    have hge := Lib.indexAny_ge crlf.data.toList l
    cases hn : noLB c
    · rfl
    · simp only [Bool.not_true, Bool.false_eq_true, if_false, Bool.true_and]
      rw [← ih]
      split
      · rename_i he
        rw [beq_iff_eq.1 he]
      · rename_i he
        have : Lib.indexAny l crlf.data.toList ≠ -1 := fun e => he (beq_iff_eq.2 e)
        exact decide_eq_decide.2 (by omega)

theorem shouldSet (n : Int) (w : World) : Calls Tryd.prog 71 #[.int .i64 n] w fun e w' => e = .returned (.bool (decide (8 < n))) ∧ w = w' := (Any.strings_shouldUseASCIISet Tryd.lays226 n w).mono fun e w' ⟨h1, h2⟩ => ⟨h1, h2.symm⟩
def AnyPost (s : ByteArray) (w : World) (e : Ending) (w' : World) : Prop := ∃ n : Int, e = .returned (.int .i64 n) ∧ decide (0 ≤ n) = !(s.data.toList.all noLB) ∧ Below w.heap.size w w'
set_option maxHeartbeats 2000000 in
theorem indexAny_short (s : ByteArray) (w : World) (h8 : s.size ≤ 8) : Calls Tryd.prog 53 #[.string s, .string crlf] w (AnyPost s w) := by
  have hemp : crlf.toList.isEmpty = false := by rw [Lib.toList_data]; rfl
  have hsz : crlf.size = 2 := rfl
  have h8z : decide ((8 : Int) < (s.size : Int)) = false := decide_eq_false (by omega)
  have HL := Lib.hid (show s.data.toList.length = s.size by simp)
  have HSS := Lib.hid (shouldSet (s.size : Int) w)
  go_enter Tryd.func53, Tryd.ntmps53
  go_wp2_with (first | (go_at_call 71; with_reducible (refine HSS.out.mono ?_); rintro e w' ⟨rfl, rfl⟩))
  clear HSS
  go_loopw [9, 10] (fun _ _ wx => ∃ i : Nat, i ≤ s.size ∧ wx.heap[w.heap.size]? = some (.stringIter s i) ∧ RowKit.Hid (Below w.heap.size w wx ∧ w.heap.size < wx.heap.size ∧ (s.data.toList.take i).all noLB = true)) (fun _ _ wx => s.size - (match wx.heap[w.heap.size]? with | some (.stringIter _ p) => p | _ => 0))
  case atStart => exact ⟨0, by omega, World.iter_heap w s 0, (Below.refl _ w).alloc (Nat.le_refl _) _, (by show w.heap.size < (World.alloc w _).heap.size; simp), rfl⟩
  case round =>
    obtain ⟨i, hi, hk, HR⟩ := hrel
    by_cases hlt : i < s.size
    · by_cases ha : (s[i]'hlt).toNat < 128
      · have hnx := fun ty => run_next_ascii_at (P := Tryd.prog) wr w.heap.size s i ty hk hlt ha
        have HNO := idxByte_crlf (s[i]'hlt)
        have HC := Lib.hid (str_at s i hlt)
        obtain ⟨M, hM⟩ : ∃ M, M = wr.iterAt w.heap.size s (i + 1) := ⟨_, rfl⟩
        have HHK := Lib.hid (show M.heap[w.heap.size]? = some (.stringIter s (i + 1)) by rw [hM]; exact Lib.iterAt_heap wr _ s i (i + 1) hk)
        have HHM := Lib.hid (show Below w.heap.size w M ∧ w.heap.size < M.heap.size by rw [hM]; exact ⟨Lib.below_iterAt HR.out.1 (Nat.le_refl _) _ _, by rw [Lib.iterAt_size]; exact HR.out.2.1⟩)
        have HKW := Lib.hid hk
        rw [← hM] at hnx
        clear hM hk
        have HIR := Lib.hid (show Calls Tryd.prog 70 #[.string crlf, .int .i32 ((s[i]'hlt).toNat : Nat)] M fun e w' => e = .returned (.int .i64 (Lib.indexByte crlf.data.toList (s[i]'hlt))) ∧ M = w' from
          (Any.strings_IndexRune_ascii Tryd.lays152 crlf ((s[i]'hlt).toNat : Nat) M (by omega) (by omega)).mono fun e w' ⟨h1, h2⟩ => ⟨by rw [h1]; simp, h2.symm⟩)
        cases hno : noLB (s[i]'hlt) <;> rw [hno] at HNO
        · have HF := Lib.hid (show s.data.toList.all noLB = false from all_no HC.out hno)
          have hge : decide (0 ≤ Lib.indexByte crlf.data.toList (s[i]'hlt)) = true := HNO
          clear HNO hno
          go_wp2_with (first | (go_at_call 70; with_reducible (refine HIR.out.mono ?_); rintro e w' ⟨rfl, rfl⟩))
          go_ret
          exact ⟨_, rfl, by rw [HF.out]; exact decide_eq_true (by omega), HHM.out.1⟩
        · have HT := Lib.hid (show (s.data.toList.take (i + 1)).all noLB = true by rw [all_take HC.out, HR.out.2.2, hno]; rfl)
          have hge : decide (0 ≤ Lib.indexByte crlf.data.toList (s[i]'hlt)) = false := HNO
          clear HNO hno
          go_wp2_with (first | (go_at_call 70; with_reducible (refine HIR.out.mono ?_); rintro e w' ⟨rfl, rfl⟩))
          go_roundw
          case rel => exact ⟨i + 1, by omega, HHK.out, HHM.out.1, HHM.out.2, HT.out⟩
          case measure =>
            rw [HHK.out, HKW.out]
            show s.size - (i + 1) < s.size - i
            omega
      · have hnx := fun ty => run_next_any_at (P := Tryd.prog) wr w.heap.size s i ty hk hlt
        obtain ⟨hd1, hd2, hd3⟩ := decode_wide s i hlt (by omega)
        obtain ⟨hd4, hd5⟩ := decode_high s i hlt (by omega)
        have hd6 := decode_max s i
        generalize hdd : Utf8.decode s i = d at hnx hd1 hd2 hd3 hd4 hd5 hd6
        obtain ⟨r, k⟩ := d
        have HT := Lib.hid (all_take_w s i HR.out.2.2 k hd1 hd3)
        clear hdd hd3
        obtain ⟨M, hM⟩ : ∃ M, M = wr.iterAt w.heap.size s (i + k) := ⟨_, rfl⟩
        have HHK := Lib.hid (show M.heap[w.heap.size]? = some (.stringIter s (i + k)) by rw [hM]; exact Lib.iterAt_heap wr _ s i (i + k) hk)
        have HHM := Lib.hid (show Below w.heap.size w M ∧ w.heap.size < M.heap.size by rw [hM]; exact ⟨Lib.below_iterAt HR.out.1 (Nat.le_refl _) _ _, by rw [Lib.iterAt_size]; exact HR.out.2.1⟩)
        have HKW := Lib.hid hk
        dsimp only at hnx hd1 hd2 hd4 hd5 hd6
        rw [← hM] at hnx
        have HIR := Lib.hid (idxRune_high r M hd4 hd6 hd2)
        clear hM hk hd2
        go_wp2_with (first | (go_at_call 70; with_reducible (refine HIR.out.mono ?_); rintro e w' ⟨rfl, hb⟩; have HB := Lib.hid hb; clear hb))
        go_roundw
        case rel => exact ⟨i + k, hd1, (HB.out.block _ HHM.out.2).trans HHK.out, HHM.out.1.trans (HB.out.mono (Nat.le_of_lt HHM.out.2)), Nat.lt_of_lt_of_le HHM.out.2 HB.out.size, HT.out⟩
        case measure =>
          rw [HB.out.block _ HHM.out.2, HHK.out, HKW.out]
          show s.size - (i + k) < s.size - i
          omega
    · have hnx := fun ty => run_next_end_at (P := Tryd.prog) wr w.heap.size s i ty hk hlt
      clear hk
      have HF := Lib.hid (show s.data.toList.all noLB = true by
        have h := HR.out.2.2
        rwa [List.take_of_length_le (by rw [HL.out]; omega)] at h)
      go_wp2
      go_ret
      exact ⟨-1, rfl, by rw [HF.out]; rfl, HR.out.1⟩

theorem indexAny_any (s : ByteArray) (w : World) (hs : s.size < 4294967281) : Calls Tryd.prog 53 #[.string s, .string crlf] w (AnyPost s w) := by
  have h116 : (Tryd.prog.info? (Tryd.lays153_ren.t 116)).map (fun i => (i.zero, i.size)) = some (some (.agg (Array.replicate 256 (.bool false))), 256) := by kernel_rfl
  by_cases h8 : s.size ≤ 8
  · exact indexAny_short s w h8
  · refine (Any.strings_IndexAny_long Tryd.lays153 (zero_of_info h116).1 (zero_of_info h116).2 s crlf w (by decide) (by omega) hs (by decide) (ascii_of_all (by decide))).mono fun e w' ⟨h1, h2⟩ => ⟨_, h1, indexAny_crlf _, ?_⟩
    rw [h2]
    exact ((Below.refl _ _).alloc (Nat.le_refl _) _).alloc (by simp) _
theorem containsAny_any (s : ByteArray) (w : World) (hs : s.size < 4294967281) : Calls Tryd.prog 40 #[.string s, .string crlf] w fun e w' => e = .returned (.bool (!(s.data.toList.all noLB))) ∧ Below w.heap.size w w' := by
  have HIA := Lib.hid (show Calls Tryd.prog 53 #[.string s, .string crlf] w (fun e w' => ∃ n : Int, e = .returned (.int .i64 n) ∧ decide (0 ≤ n) = !(s.data.toList.all noLB) ∧ Below w.heap.size w w') from indexAny_any s w hs)
  go_enter Tryd.func40, Tryd.ntmps40
  go_wp2_with (first | (go_at_call 53; with_reducible (refine HIA.out.mono ?_); rintro e w' ⟨n, rfl, hn, hb⟩; have HB := Lib.hid hb; have HN := Lib.hid hn; clear hb hn))
  go_ret
  exact ⟨by rw [HN.out]; rfl, HB.out⟩
end Go.Proofs.YtphnplpgeoleeaaDoor
