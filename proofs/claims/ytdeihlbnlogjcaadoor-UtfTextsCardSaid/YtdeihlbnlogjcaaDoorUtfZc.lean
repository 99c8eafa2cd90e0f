/- The contract of Spare. -/
import Derived.Test.YtdeihlbnlogjcaaDoorUtfZb
namespace Go.Proofs.YtdeihlbnlogjcaaDoor
open Go.RowKit Go.Lib Go.Shelf
set_option maxRecDepth 100000
set_option linter.unusedVariables false
set_option linter.unusedSectionVars false

def marks : List UInt8 := [201, 202, 203, 204, 205, 206, 207, 208]
theorem marks_next (k : Nat) (h : k < 8) : ∃ x : UInt8, marks.take (k + 1) = marks.take k ++ [x] ∧ bytesV [x] = [.int .u8 (201 + (k : Int))] := by
  rcases (by omega : k = 0 ∨ k = 1 ∨ k = 2 ∨ k = 3 ∨ k = 4 ∨ k = 5 ∨ k = 6 ∨ k = 7) with rfl | rfl | rfl | rfl | rfl | rfl | rfl | rfl
  · exact ⟨201, rfl, rfl⟩
  · exact ⟨202, rfl, rfl⟩
  · exact ⟨203, rfl, rfl⟩
  · exact ⟨204, rfl, rfl⟩
  · exact ⟨205, rfl, rfl⟩
  · exact ⟨206, rfl, rfl⟩
  · exact ⟨207, rfl, rfl⟩
  · exact ⟨208, rfl, rfl⟩
def OwnB (b : Nat) (l : List UInt8) (v : Value) (w : World) : Prop := v ≠ .slice none 0 0 ∧ w.ownsRow b 5 1 v l.length (bytesV l)
theorem ownB_next {w W1 w3 : World} {l : List UInt8} {x : UInt8} {v v' : Value} {o : Obj} (hb : Below w.heap.size w W1) (ho : W1.ownsRow w.heap.size 5 1 v l.length (bytesV l))
    (hown : w3.ownsRow w.heap.size 5 1 v' (l.length + 1) (bytesV l ++ bytesV [x])) (hg : (W1.alloc o).grownBy w3 v.ownBlock) (hnil : v' = .slice none 0 0 ↔ v = .slice none 0 0 ∧ 1 = 0) :
    OwnB w.heap.size (l ++ [x]) v' w3 ∧ Below w.heap.size w w3 := by
  refine ⟨⟨fun e => absurd (hnil.1 e).2 (by decide), ?_⟩, (hb.alloc hb.size o).grown hg (by have := hb.size; simp; omega) (fun j e => (ho.lt j e).1)⟩
  rw [← bytesV_app, List.length_append]
  exact hown
set_option maxHeartbeats 2000000 in
theorem spare_any (v : Value) (L : List UInt8) (w : World) (h : ArgB w v L) (hl : L.length ≤ 1099511627) :
    Calls Tryd.prog 20 #[v] w fun e w' => ∃ v', e = .returned v' ∧ RowKit.Hid (OwnB w.heap.size (L ++ marks) v' w') ∧ Below w.heap.size w w' := by
  obtain ⟨i0, hi, hz0, hz1, hz2⟩ := info_parts infoByte
  have HC := Lib.hid (copyBytes_any v L w h (by omega))
  clear h
  go_enter Tryd.func20, Tryd.ntmps20
  go_wp2_with fail
  refine HC.out.mono ?_
  rintro e w1 ⟨v1, rfl, ho1, hb1⟩
  have HB1 := Lib.hid hb1
  clear hb1
  go_wp2
  go_loopw [3, 4] (fun u i wr => ∃ k : Nat, k ≤ 8 ∧ i = .int .i64 k ∧ RowKit.Hid (OwnB w.heap.size (L ++ marks.take k) u wr) ∧ RowKit.Hid (Below w.heap.size w wr)) (fun _ i _ => 8 - (RowKit.intOf i).toNat)
  case atStart => exact ⟨0, by omega, rfl, by rw [List.take_zero, List.append_nil]; exact ho1.out, HB1.out⟩
  case round =>
    obtain ⟨k, hk, rfl, HO, HB⟩ := hrel
    have hsz : w.heap.size ≤ wr.heap.size := HB.out.size
    by_cases hlt : k < 8
    · have hki : (k : Int) < 8 := by omega
      obtain ⟨x, hx, hxv⟩ := marks_next k hlt
      have HX := Lib.hid hx
      have HXV := Lib.hid hxv
      have HOW := Lib.hid HO.out.2
      have hln : (L ++ marks.take k).length ≤ 1099511627 + 8 := by rw [List.length_append, List.length_take]; have : marks.length = 8 := rfl; omega
      clear hx hxv
      go_wp2_with (at_builtin; refine wpList_append_own _ rfl _ _ 22 rfl w.heap.size 5 i0 _ 1 1 Tryd.underlying22 hi hz0 hz1 hz2 rfl (by decide) _ _ _ rfl (HOW.out.alloc _) ⟨wr.heap.size, 0, none⟩ 1 1 (bytesV [x]) rfl rfl (by rw [HXV.out]; exact cell_one_new _ _ _) (bytesV_plain _) (by unfold maxLen; omega) (by omega) (by simp; omega) ?_; intro v3 w3 hown' hgrow hnil; have HST := Lib.hid (ownB_next HB.out HOW.out hown' hgrow hnil); clear hown' hgrow hnil)
      go_roundw
      case rel => exact ⟨k + 1, by omega, by go_num, by rw [HX.out, ← List.append_assoc]; exact HST.out.1, HST.out.2⟩
      case measure => simp [RowKit.intOf]; omega
    · have hki : ¬ (k : Int) < 8 := by omega
      have e : k = 8 := by omega
      subst e
      go_wp2
      go_ret
      exact ⟨_, rfl, HO.out, HB.out⟩
end Go.Proofs.YtdeihlbnlogjcaaDoor
