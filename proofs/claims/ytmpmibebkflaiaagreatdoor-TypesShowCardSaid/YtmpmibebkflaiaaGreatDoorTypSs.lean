/- The reference's show of a type. -/
import Derived.Test.YtmpmibebkflaiaaGreatDoorTypSn
namespace Go.Proofs.YtmpmibebkflaiaaGreatDoor
open Go.RowKit Go.Lib Go.Shelf Go.Sort Tp
set_option maxRecDepth 100000
set_option linter.unusedVariables false
set_option linter.unusedSectionVars false

theorem ba_ext2 {a b : ByteArray} (h : a.data.toList = b.data.toList) : a = b := by
  obtain ⟨⟨a⟩⟩ := a
  obtain ⟨⟨b⟩⟩ := b
  simp at h
  rw [h]
def RShow (n : Nat) : Prop := ∀ (t : Ty) (s : Value) (w : World), t.wt ≤ n → okT nameB t → t.wt ≤ 300 → (∀ p ∈ parts t, p.name.size ≤ 16000) → fit t → IsA w (Old w) t.args s →
    Calls Tryz.prog 26 #[tv t s] w fun e w' => e = .returned (.string ⟨⟨writeB t⟩⟩) ∧ Below w.heap.size w w'
theorem text_size {t : Ty} (ho : okT nameB t) (hw : t.wt ≤ 300) (hn : ∀ p ∈ parts t, p.name.size ≤ 16000) : (writeB t).length ≤ 5000000 := by
  have := write_len t ho hn
  omega
/-- in brackets or not. -/
def wrapB (b : Bool) (l : List UInt8) : List UInt8 := if b then 40 :: l ++ [41] else l
theorem piece_wrap3 (x : Ty) : pieceB [3, 4] x = wrapB (x.kind == 3 || x.kind == 4) (writeB x) := by
  unfold pieceB br wrapB
  by_cases h3 : x.kind = 3 <;> by_cases h4 : x.kind = 4 <;> simp [h3, h4]
theorem piece_wrap4 (x : Ty) : pieceB [4] x = wrapB (x.kind == 4) (writeB x) := by
  unfold pieceB br wrapB
  by_cases h4 : x.kind = 4 <;> simp [h4]
set_option maxHeartbeats 1000000 in
theorem wrapped_any {n : Nat} (hS : RShow n) (x : Ty) (b : Bool) (s : Value) (w : World) (hw : x.wt ≤ n) (ho : okT nameB x) (h3 : x.wt ≤ 300) (hn : ∀ p ∈ parts x, p.name.size ≤ 16000) (hf : fit x) (hA : IsA w (Old w) x.args s) :
    Calls Tryz.prog 38 #[tv x s, .bool b] w fun e w' => e = .returned (.string ⟨⟨wrapB b (writeB x)⟩⟩) ∧ Below w.heap.size w w' := by
  obtain ⟨A, c, rfl, -⟩ := hA.form
  obtain ⟨M, hM, hx, hMs, hMb⟩ := one_box w x (.slice A x.args.length c) 24
  have hC := hS x _ M hw ho h3 hn hf (hA.after hMb)
  have hl := text_size ho h3 hn
  obtain ⟨U, hU⟩ : ∃ U : ByteArray, U = ⟨⟨writeB x⟩⟩ := ⟨_, rfl⟩
  have hUl : U.data.toList = writeB x := by rw [hU]
  have hUs : U.size ≤ 5000000 := by rw [hU]; exact hl
  rw [← hU] at hC
  have HC := Lib.hid hC
  have HM := Lib.hid hM
  have HMb := Lib.hid hMb
  have HU := Lib.hid hUl
  unfold tv at *
  clear hC hM hMb hU hUl hl hA hx hMs hS
  cases b
  all_goals
    go_enter Tryz.func38, Tryz.ntmps38
    go_wp2_with fail
    rw [← HM.out]
    refine HC.out.mono ?_
    rintro e w1 ⟨rfl, hb⟩
    have HB := Lib.hid hb
    clear hb
    go_wp2
    go_ret
    exact ⟨ret_str (ba_ext2 (by simp [HU.out, wrapB])), HMb.out.trans (HB.out.mono HMb.out.size)⟩
set_option maxHeartbeats 4000000 in
theorem rshow_var (n : Int) (s : Value) (w : World) (h0 : 0 ≤ n) (h1 : n < 1073741824) (hs : ∃ A c, s = .slice A 0 c) :
    Calls Tryz.prog 26 #[.agg #[.int .i64 1, .int .i64 n, .string ⟨#[]⟩, s]] w fun e w' => e = .returned (.string ⟨⟨varB n⟩⟩) ∧ Below w.heap.size w w' := by
  obtain ⟨A, c, rfl⟩ := hs
  have HN := Lib.hid (letter_num h0)
  obtain ⟨ch, hch⟩ : ∃ ch, ch = (97 : UInt8) + (n % 26).toNat.toUInt8 := ⟨_, rfl⟩
  rw [← hch] at HN
  obtain ⟨M, hM⟩ : ∃ M, M = w.alloc (.cells #[.int .i64 1, .int .i64 n, .string ⟨#[]⟩, .slice A 0 c] 24) := ⟨_, rfl⟩
  have hMb : Below w.heap.size w M := by rw [hM]; exact (Below.refl _ _).alloc (Nat.le_refl _) _
  have hMs : M.heap.size = w.heap.size + 1 := by rw [hM]; simp
  have hbl : BRow M.heap.size [ch] (.slice (some ⟨M.heap.size, 0, none⟩) 1 1) (M.alloc (.cells #[.int .u8 (97 + n % 26)] 5)) := by
    have e : bytesV [ch] = [.int .u8 (97 + n % 26)] := by
      show [byteV ch] = _
      unfold byteV
      rw [HN.out]
    unfold BRow
    rw [e]
    exact World.ownsRow_lit (e := 5) (size := 1) M #[.int .u8 (97 + n % 26)] 1 (Nat.le_refl _) (by unfold maxLen; omega) rfl
  have hrd : Rd (M.alloc (.cells #[.int .u8 (97 + n % 26)] 5)) (M.alloc (.cells #[.int .u8 (97 + n % 26)] 5)).heap.size 1 (.slice (some ⟨M.heap.size, 0, none⟩) 1 1) [ch].length (bytesV [ch]) := Rd.of_own hbl
  have kcv := conv_rd hrd 47 9 5 Tryz.underlying47 Tryz.underlying5 Tryz.underlying9
  have HCH := Lib.hid hch
  obtain ⟨W, hW⟩ : ∃ W, W = M.alloc (.cells #[.int .u8 (97 + n % 26)] 5) := ⟨_, rfl⟩
  have HWb := Lib.hid (show Below w.heap.size w W by rw [hW]; exact hMb.alloc (by omega) _)
  rw [hM, show (w.alloc (.cells #[.int .i64 1, .int .i64 n, .string ⟨#[]⟩, .slice A 0 c] 24)).heap.size = w.heap.size + 1 by simp] at kcv
  have HW := Lib.hid (show (w.alloc (.cells #[.int .i64 1, .int .i64 n, .string ⟨#[]⟩, .slice A 0 c] 24)).alloc (.cells #[.int .u8 (97 + n % 26)] 5) = W by rw [hW, hM])
  clear hM hMb hMs hbl hrd hch hW
  by_cases h26 : 26 ≤ n
  · have HV := Lib.hid (show varB n = 39 :: ch :: Lib.decDigits (n / 26).toNat by unfold varB; rw [if_pos h26, ← HCH.out]; rfl)
    have hdl := (decDigits_len 10 (n / 26).toNat (by decide) (by have : 10 ^ 10 = 10000000000 := rfl; omega)).1
    have hNU := fun W' : World => num_any (n / 26).toNat W' (by have : 10 ^ 15 = 1000000000000000 := rfl; omega)
    rw [show (((n / 26).toNat : Nat) : Int) = n / 26 by omega] at hNU
    obtain ⟨D, hD⟩ : ∃ D : ByteArray, D = ⟨⟨Lib.decDigits (n / 26).toNat⟩⟩ := ⟨_, rfl⟩
    have hDs : D.size ≤ 10 := by rw [hD]; exact hdl
    have HDL := Lib.hid (show D.data.toList = Lib.decDigits (n / 26).toNat by rw [hD])
    rw [← hD] at hNU
    have HNU := Lib.hid hNU
    clear hD hNU hdl
    go_enter Tryz.func26, Tryz.ntmps26
    go_wp2_with fail
    refine (HNU.out _).mono ?_
    rintro e w1 ⟨rfl, hb⟩
    rw [HW.out] at hb
    have HB := Lib.hid hb
    clear hb
    go_wp2
    go_ret
    exact ⟨ret_str (ba_ext2 (by rw [HV.out]; simp [HDL.out])), HWb.out.trans (HB.out.mono HWb.out.size)⟩
  · have HV := Lib.hid (show varB n = [39, ch] by unfold varB; rw [if_neg h26, ← HCH.out]; simp)
    go_enter Tryz.func26, Tryz.ntmps26
    go_wp2
    go_ret
    rw [HW.out]
    exact ⟨ret_str (ba_ext2 (by rw [HV.out]; simp)), HWb.out⟩
end Go.Proofs.YtmpmibebkflaiaaGreatDoor
