/- The reference's Show of a number. -/
import Derived.Test.YtmpmibebkflaiaaGreatDoorTypCo
namespace Go.Proofs.YtmpmibebkflaiaaGreatDoor
open Go.RowKit Go.Lib Go.Shelf Go.Sort Tp
set_option maxRecDepth 100000
set_option linter.unusedVariables false
set_option linter.unusedSectionVars false

theorem decDigits_len : ∀ (k n : Nat), 0 < k → n < 10 ^ k → (Lib.decDigits n).length ≤ k ∧ 0 < (Lib.decDigits n).length := by
  intro k
  induction k with
  | zero => intro n h; omega
  | succ k ih =>
    intro n _ hn
    rw [Lib.decDigits.eq_def]
    split
    · simp
    · rename_i h10
      have h1 : n / 10 < 10 ^ k := by rw [Nat.pow_succ] at hn; omega
      have hk : 0 < k := by
        rcases Nat.eq_zero_or_pos k with h | h
        · subst h; simp at hn; omega
        · exact h
      have := ih (n / 10) hk h1
      simp
      omega
/-- what is told of the digits L behind a rest k. -/
def ShowI (n k : Nat) (L : List UInt8) : Prop := (k = 0 → Lib.decDigits n = L) ∧ (0 < k → Lib.decDigits n = Lib.decDigits k ++ L)
theorem showI_next {n k : Nat} {L : List UInt8} (h : ShowI n k L) (hk : 0 < k) : ShowI n (k / 10) (UInt8.ofNat (48 + k % 10) :: L) := by
  have h2 := h.2 hk
  rw [Lib.decDigits.eq_def k] at h2
  constructor
  · intro h0
    have : k < 10 := by omega
    rw [dif_pos this] at h2
    rw [h2, Nat.mod_eq_of_lt this]
    rfl
  · intro h0
    have : ¬ k < 10 := by omega
    rw [dif_neg this] at h2
    rw [h2, List.append_assoc]
    rfl
theorem showI_len {n k : Nat} {L : List UInt8} (h : ShowI n k L) (hn : n < 10 ^ 15) : L.length ≤ 15 := by
  have h1 := (decDigits_len 15 n (by decide) hn).1
  rcases Nat.eq_zero_or_pos k with h0 | h0
  · rw [h.1 h0] at h1
    exact h1
  · rw [h.2 h0, List.length_append] at h1
    omega
theorem BRow.some_form {B : Nat} {l : List UInt8} {v : Value} {w : World} (h : BRow B l v w) (hl : 0 < l.length) : ∃ g c, v = .slice (some ⟨g, 0, none⟩) l.length c := by
  rcases h.2 with ⟨-, h0⟩ | ⟨g, cap, cur, rfl, -⟩
  · have : l.length = 0 := h0
    omega
  · exact ⟨g, cap, rfl⟩
theorem BRow.news {B : Nat} {l : List UInt8} {w : World} {g c n : Nat} (h : BRow B l (.slice (some ⟨g, 0, none⟩) n c) w) (o : Obj) : ∀ (j : Nat) (u : Value), (bytesV l)[j]? = some u → (w.alloc o).cell? ((⟨g, 0, none⟩ : Addr).add j) = some u := by
  intro j u hj
  obtain rfl : n = l.length := by
    rcases h.2 with ⟨e, -⟩ | ⟨g', cap, cur, e, -⟩
    · cases e
    · simp only [Value.slice.injEq] at e
      exact e.2.1
  have hk : j < l.length := by have := (List.getElem?_eq_some_iff.1 hj).1; rwa [bytesV_len] at this
  have h2 := World.ownsRow.cellAt (World.ownsRow.alloc h o) j (by rw [Nat.mul_one]; exact hk)
  rw [show (⟨g, 0, none⟩ : Addr).add j = ⟨g, j, none⟩ by unfold Addr.add; simp; exact fun h => h.symm]
  rw [h2]
  exact hj
set_option maxHeartbeats 1000000 in
theorem num_any (n : Nat) (w : World) (hn : n < 10 ^ 15) : Calls Tryz.prog 37 #[.int .i64 (n : Nat)] w fun e w' => e = .returned (.string ⟨⟨Lib.decDigits n⟩⟩) ∧ Below w.heap.size w w' := by
  by_cases h0 : n = 0
  · subst h0
    have hd : (⟨⟨Lib.decDigits 0⟩⟩ : ByteArray) = ⟨#[48]⟩ := by rw [Lib.decDigits, dif_pos (by decide)]; rfl
    have HD := Lib.hid hd
    clear hd
    go_enter Tryz.func37, Tryz.ntmps37
    go_wp2
    go_ret
    exact ⟨by rw [HD.out]; rfl, Below.refl _ _⟩
  · have hez : ((n : Int) == 0) = false := beq_eq_false_iff_ne.2 (by omega)
    have hneg : decide ((n : Int) < 0) = false := decide_eq_false (by omega)
    have hn2 : n < 1000000000000000 := hn
    have HN0 := Lib.hid h0
    clear h0 hn
    go_enter Tryz.func37, Tryz.ntmps37
    go_wp2
    go_loopw [0, 3] (fun vv u wr => ∃ (k : Nat) (L : List UInt8) (g c n' : Nat), vv = .int .i64 k ∧ k ≤ n ∧ u = .slice (some ⟨g, 0, none⟩) n' c ∧ RowKit.Hid (n' = L.length) ∧ RowKit.Hid (ShowI n k L) ∧ RowKit.Hid (BRow w.heap.size L (.slice (some ⟨g, 0, none⟩) n' c) wr) ∧ RowKit.Hid (Below w.heap.size w wr)) (fun vv _ _ => (RowKit.intOf vv).toNat)
    case atStart => exact ⟨n, [], w.heap.size, 0, 0, rfl, Nat.le_refl _, rfl, Lib.hid rfl, Lib.hid ⟨fun h => absurd h HN0.out, fun _ => by simp⟩, Lib.hid (World.ownsRow_lit (e := 5) (size := 1) w #[] 0 (Nat.le_refl _) (by unfold maxLen; omega) rfl), Lib.hid ((Below.refl _ _).alloc (Nat.le_refl _) _)⟩
    case round =>
      obtain ⟨k, L, g, c, n', rfl, hk, rfl, HL, HI, HO, HB⟩ := hrel
      by_cases hk0 : k = 0
      · subst hk0
        have hrd : Rd wr wr.heap.size 1 (.slice (some ⟨g, 0, none⟩) n' c) L.length (bytesV L) := Rd.of_own HO.out
        have kcv := conv_rd hrd 47 9 5 Tryz.underlying47 Tryz.underlying5 Tryz.underlying9
        have HR := Lib.hid (HI.out.1 rfl)
        clear hrd
        go_wp2
        go_ret
        exact ⟨by rw [HR.out]; rfl, HB.out⟩
      · have hkz : ((k : Int) != 0) = true := by rw [bne_iff_ne]; omega
        have HK0 := Lib.hid hk0
        obtain ⟨m, hm, hm9⟩ : ∃ m : Nat, (k : Int) % 10 = (m : Int) ∧ m ≤ 9 := ⟨k % 10, by omega, by omega⟩
        obtain ⟨q, hq, hqk⟩ : ∃ q : Nat, (k : Int) / 10 = (q : Int) ∧ q < k := ⟨k / 10, by omega, by omega⟩
        have HNX := Lib.hid (show ShowI n q (UInt8.ofNat (48 + m) :: L) by
          have h := showI_next HI.out (by omega)
          rwa [show k / 10 = q by omega, show k % 10 = m by omega] at h)
        have hL := showI_len HI.out hn2
        have hbl : BRow wr.heap.size [UInt8.ofNat (48 + m)] (.slice (some ⟨wr.heap.size, 0, none⟩) 1 1) (wr.alloc (.cells #[.int .u8 (48 + (m : Int))] 5)) := by
          have e : bytesV [UInt8.ofNat (48 + m)] = [.int .u8 (48 + (m : Int))] := by
            have h : (UInt8.ofNat (48 + m)).toNat = 48 + m := by simp; omega
            show [byteV _] = _
            unfold byteV
            rw [h]
            simp
          unfold BRow
          rw [e]
          exact World.ownsRow_lit (e := 5) (size := 1) wr #[.int .u8 (48 + (m : Int))] 1 (Nat.le_refl _) (by unfold maxLen; omega) rfl
        have HBL := Lib.hid hbl
        have hw : w.heap.size ≤ wr.heap.size := HB.out.size
        clear hk0 hbl
        go_wp2_with (at_builtin; refine wpList_append_bs rfl _ _ rfl wr.heap.size _ [UInt8.ofNat (48 + m)] rfl HBL.out ⟨g, 0, none⟩ n' c L rfl HL.out.symm (HO.out.news _) (by have := HL.out; simp; omega) (by simp) ?_; intro v3 w3 hr3 hw3; have HR3 := Lib.hid hr3; have HW3 := Lib.hid hw3; clear hr3 hw3)
        obtain ⟨g3, c3, rfl⟩ := HR3.out.some_form (by simp)
        go_roundw
        case rel => exact ⟨q, UInt8.ofNat (48 + m) :: L, g3, c3, _, by go_num, by omega, rfl, Lib.hid rfl, HNX, Lib.hid (own_base HR3.out hw), Lib.hid (HB.out.trans ((((Below.refl _ _).alloc (Nat.le_refl _) _).trans (HBL.out.below HW3.out (by simp))).mono hw))⟩
        case measure => (simp [RowKit.intOf] <;> omega)
end Go.Proofs.YtmpmibebkflaiaaGreatDoor
