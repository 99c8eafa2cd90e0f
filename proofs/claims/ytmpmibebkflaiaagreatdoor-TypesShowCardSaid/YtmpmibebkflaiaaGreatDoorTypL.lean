/- The contracts of slices.Index and slices.Contains over ints. -/
import Derived.Test.YtmpmibebkflaiaaGreatDoorMem
import Derived.Test.YtmpmibebkflaiaaGreatDoorLexE
import Derived.Lib.Hide
namespace Go.Proofs.YtmpmibebkflaiaaGreatDoor
open Go.RowKit Go.Lib
set_option maxRecDepth 100000
set_option linter.unusedVariables false
set_option linter.unusedSectionVars false

def intsC (l : List Int) : List Value := l.map (Value.int .i64)
theorem intsC_get {l : List Int} {k : Nat} {x : Int} (h : l[k]? = some x) : (intsC l)[k]? = some (.int .i64 x) := by simp [intsC, h]
def ixF (l : List Int) (x : Int) : Int := match l.findIdx? (fun y => x == y) with | some i => (i : Nat) | none => -1
set_option maxHeartbeats 1000000 in
theorem index_any (v : Value) (l : List Int) (x : Int) (w : World) (B : Nat) (h : Rd w B 1 v l.length (intsC l)) (hl : l.length ≤ 1099511627776) :
    Calls Tryz.prog 69 #[v, .int .i64 x] w fun e w' => e = .returned (.int .i64 (ixF l x)) ∧ w = w' := by
  obtain ⟨-, A, c, rfl, hc, hr⟩ := h
  obtain ⟨n, hn⟩ : ∃ n, n = l.length := ⟨_, rfl⟩
  rw [← hn] at hr hc hl ⊢
  have HN := Lib.hid hn
  have HR := Lib.hid hr
  clear hn hr
  go_enter Tryz.func69, Tryz.ntmps69
  go_wp2
  go_loopw [8] (fun i wr => ∃ k : Nat, k ≤ n ∧ i = .int .i64 k ∧ w = wr ∧ RowKit.Hid (∀ y ∈ l.take k, (x == y) = false)) (fun i _ => n - (RowKit.intOf i).toNat)
  case atStart => exact ⟨0, by omega, rfl, rfl, by simp [RowKit.Hid]⟩
  case round =>
    obtain ⟨k, hk, rfl, rfl, HF⟩ := hrel
    by_cases hlt : k < n
    · obtain ⟨g, o, rfl, hg, hr⟩ := HR.out (by omega)
      obtain ⟨y, hy⟩ : ∃ y, l[k]? = some y := ⟨_, List.getElem?_eq_getElem (by have := HN.out; omega)⟩
      have c0 := (hr k (by omega)).trans (intsC_get hy)
      have HY := Lib.hid hy
      clear hr hy
      by_cases hxy : x = y
      · subst hxy
        have HE := Lib.hid (show l.findIdx? (fun y => x == y) = some k by
          rw [List.findIdx?_eq_some_iff_getElem]
          obtain ⟨hlt2, he⟩ := List.getElem?_eq_some_iff.1 HY.out
          refine ⟨hlt2, by rw [he]; simp, fun j hj => ?_⟩
          have := HF.out l[j] (by rw [List.mem_take_iff_getElem]; exact ⟨j, by omega, rfl⟩)
          rw [this]; simp)
        go_wp2
        go_ret
        have e1 : ixF l x = k := by unfold ixF; rw [HE.out]
        rw [e1]
        exact ⟨rfl, rfl⟩
      · have hb : (x == y) = false := by simpa using hxy
        have HB := Lib.hid hb
        clear hxy
        go_wp2
        go_roundw
        case rel => exact ⟨k + 1, by omega, by go_num, by first | rfl | trivial, fun z hz => by
          rw [List.take_add_one, HY.out, List.mem_append] at hz
          rcases hz with h | h
          · exact HF.out z h
          · simp at h; subst h; exact HB.out⟩
        case measure => simp [RowKit.intOf]; omega
    · have HE := Lib.hid (show l.findIdx? (fun y => x == y) = none by
        rw [List.findIdx?_eq_none_iff]
        intro y hy
        exact HF.out y (by rw [List.take_of_length_le (by have := HN.out; omega)]; exact hy))
      go_wp2
      go_ret
      have e1 : ixF l x = -1 := by unfold ixF; rw [HE.out]
      rw [e1]
      exact ⟨rfl, rfl⟩
theorem contains_any (v : Value) (l : List Int) (x : Int) (w : World) (B : Nat) (h : Rd w B 1 v l.length (intsC l)) (hl : l.length ≤ 1099511627776) :
    Calls Tryz.prog 48 #[v, .int .i64 x] w fun e w' => e = .returned (.bool (l.contains x)) ∧ w = w' := by
  have HI := Lib.hid (index_any v l x w B h hl)
  have hcon : l.contains x = (l.findIdx? (fun y => x == y)).isSome := by
    rw [List.findIdx?_isSome, Bool.eq_iff_iff]
    simp
  cases hf : l.findIdx? (fun y => x == y) with
  | none =>
    have hix : ixF l x = -1 := by unfold ixF; rw [hf]
    rw [hf] at hcon
    rw [hix] at HI
    have HC := Lib.hid hcon
    clear h hf hcon
    go_enter Tryz.func48, Tryz.ntmps48
    go_wp2_with (go_at_call 69; with_reducible (refine HI.out.mono ?_); rintro e w1 ⟨rfl, rfl⟩)
    go_ret
    rw [HC.out]
    exact ⟨rfl, rfl⟩
  | some i =>
    have hix : ixF l x = (i : Nat) := by unfold ixF; rw [hf]
    rw [hf] at hcon
    rw [hix] at HI
    have HC := Lib.hid hcon
    clear h hf hcon
    go_enter Tryz.func48, Tryz.ntmps48
    go_wp2_with (go_at_call 69; with_reducible (refine HI.out.mono ?_); rintro e w1 ⟨rfl, rfl⟩)
    go_ret
    rw [HC.out]
    exact ⟨rfl, rfl⟩
end Go.Proofs.YtmpmibebkflaiaaGreatDoor
