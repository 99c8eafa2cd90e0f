/- slices.Clone at bytes, and the decoder. -/
import Derived.Test.YtphnplpgeoleeaaDoorFraH
import Derived.Lib.SliceRun
namespace Go.Proofs.YtphnplpgeoleeaaDoor
open Go.RowKit Go.Lib Go.Shelf
set_option maxRecDepth 100000
set_option linter.unusedVariables false
set_option linter.unusedSectionVars false

theorem clone_any (v : Value) (l : List UInt8) (w : World) (h : ArgB w v l) (hl : l.length ≤ 1099511627776) :
    Calls Tryd.prog 26 #[v] w fun e w' => ∃ v', e = .returned v' ∧ RowKit.Hid (w'.ownsRow w.heap.size 5 1 v' l.length (bytesV l)) ∧ Below w.heap.size w w' := by
  obtain ⟨h1, h2⟩ := h
  obtain ⟨i0, hi, hz0, hz1, hz2⟩ := info_parts infoByte
  have heq := fun (w : World) (a : Option Addr) (n c n' c' : Nat) => Lib.run_eql_slice_nil (P := Tryd.prog) w 27 5 a n c n' c' Tryd.underlying27
  have HO := Lib.hid (World.ownsRow_lit (e := 5) (size := 1) w #[] 0 (Nat.le_refl _) (by unfold maxLen; omega) rfl)
  obtain ⟨n, hn⟩ : ∃ n, n = l.length := ⟨_, rfl⟩
  rw [← hn] at h1 h2 hl ⊢
  have HR := Lib.hid h1
  have HN := Lib.hid hn
  clear h1 hn
  rcases h2 with rfl | ⟨ad, c, rfl⟩
  · have hn0 : n = 0 := by
      obtain ⟨_, A, c', e, _⟩ := HR.out
      simp only [Value.slice.injEq] at e
      omega
    subst hn0
    go_enter Tryd.func26, Tryd.ntmps26
    go_wp2
    go_ret
    obtain rfl : l = [] := List.eq_nil_of_length_eq_zero HN.out.symm
    exact ⟨_, rfl, World.ownsRow_nil _ _ _ _, Below.refl _ _⟩
  · have HR1 := Lib.hid (ArgB.at HR.out (.cells #[] 5))
    go_enter Tryd.func26, Tryd.ntmps26
    go_wp2_with (at_builtin; refine wpList_append_own _ rfl _ _ 27 rfl w.heap.size 5 i0 _ 1 1 Tryd.underlying27 hi hz0 hz1 hz2 rfl (by decide) _ _ _ rfl HO.out ad n c (bytesV l) rfl (by rw [bytesV_len, HN.out, Nat.mul_one]) HR1.out (bytesV_plain _) (by unfold maxLen; omega) (by omega) (by simp) ?_; intro v' w1 hown hgrow hnil)
    go_ret
    refine ⟨_, rfl, ?_, ((Below.refl _ _).alloc (Nat.le_refl _) _).grown hgrow (by simp) (fun g e => by cases e; exact Nat.le_refl _)⟩
    rw [Nat.zero_add] at hown
    exact hown
/-- a decoder in block D: what it holds, and the error that it is dead of. -/
def DecAt (w : World) (D : Nat) (hv : Value) (e : Int) : Prop := w.heap[D]? = some (.cells #[hv, .int .i64 e] 51 (0, 0))
theorem new_any (w : World) : Calls Tryd.prog 12 #[] w fun e w' => e = .returned (.pointer (some ⟨w.heap.size, 0, none⟩)) ∧ w' = w.alloc (.cells #[.slice none 0 0, .int .i64 0] 51) := by
  go_enter Tryd.func12, Tryd.ntmps12
  go_wp2
  go_ret
  exact ⟨rfl, rfl⟩
theorem DecAt.cells {w : World} {D : Nat} {hv : Value} {e : Int} (h : DecAt w D hv e) : w.cell? ⟨D, 0, none⟩ = some hv ∧ w.cell? ⟨D, 1, none⟩ = some (.int .i64 e) ∧ w.frozen? ⟨D, 0, none⟩ = false ∧ w.frozen? ⟨D, 1, none⟩ = false := by
  unfold DecAt at h
  refine ⟨?_, ?_, ?_, ?_⟩ <;> simp [World.cell?, World.frozen?, h]
theorem dead_any (w : World) (D : Nat) (hv : Value) (e : Int) (h : DecAt w D hv e) : Calls Tryd.prog 17 #[.pointer (some ⟨D, 0, none⟩)] w fun r w' => r = .returned (.bool (e != 0)) ∧ w = w' := by
  obtain ⟨h0, h1, z0, z1⟩ := h.cells
  clear h
  go_enter Tryd.func17, Tryd.ntmps17
  go_wp2
  go_ret
  exact ⟨rfl, by first | rfl | trivial⟩
theorem held_any (w : World) (D : Nat) (A : Option Addr) (n c : Nat) (e : Int) (h : DecAt w D (.slice A n c) e) : Calls Tryd.prog 18 #[.pointer (some ⟨D, 0, none⟩)] w fun r w' => r = .returned (.int .i64 (n : Nat)) ∧ w = w' := by
  obtain ⟨h0, h1, z0, z1⟩ := h.cells
  clear h
  go_enter Tryd.func18, Tryd.ntmps18
  go_wp2
  go_ret
  exact ⟨rfl, by first | rfl | trivial⟩
end Go.Proofs.YtphnplpgeoleeaaDoor
