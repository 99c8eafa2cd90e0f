/- Layer 3's great; bodies that are encoded one behind the other. -/
import Derived.Test.YtphnplpgeoleeaaDoorFraPie
namespace Go.Proofs.YtphnplpgeoleeaaDoor
open Go.RowKit Go.Lib Go.Shelf
set_option maxRecDepth 100000
set_option linter.unusedVariables false
set_option linter.unusedSectionVars false

def sumL (ls : List (List UInt8)) : Nat := (ls.map fun x => 1 + x.length).sum
theorem sumL_take (ls : List (List UInt8)) (k : Nat) (x : List UInt8) (hx : ls[k]? = some x) : sumL (ls.take (k + 1)) = sumL (ls.take k) + (1 + x.length) := by
  rw [List.take_add_one, hx]
  simp [sumL]
theorem sumL_bound (ls : List (List UInt8)) (h : ∀ x ∈ ls, x.length ≤ 140737488351232) : sumL ls ≤ ls.length * 140737488351233 := by
  induction ls with
  | nil => simp [sumL]
  | cons x r ih =>
    have h1 := ih (fun y hy => h y (List.mem_cons_of_mem _ hy))
    have h2 := h x List.mem_cons_self
    simp only [sumL, List.map_cons, List.sum_cons, List.length_cons] at *
    omega
def GreatP (ls : List (List UInt8)) (w : World) (e : Ending) (w' : World) : Prop := ∃ b : Bool, e = .returned (.bool b) ∧ w = w' ∧ (b = false → ls.length ≤ 200 ∧ sumL ls ≤ 200000)
set_option maxHeartbeats 1000000 in
theorem great_any (v : Value) (ls : List (List UInt8)) (w : World) (h : ArgRS w v ls) : Calls Tryd.prog 11 #[v] w (GreatP ls w) := by
  obtain ⟨⟨vs, ⟨hl1, A1, c1, rfl, hc1, h1⟩, -, he1⟩, hls, hxs⟩ := h
  obtain ⟨n, hn⟩ : ∃ n, n = ls.length := ⟨_, rfl⟩
  rw [← hn] at h1 hc1 hls ⊢
  have HN := Lib.hid hn
  have R1 := Lib.hid h1
  have E1 := Lib.hid he1
  have HXS := Lib.hid hxs
  clear hn h1 hl1 he1 hxs
  go_enter Tryd.func11, Tryd.ntmps11
  go_wp2
  go_loopw [3, 4] (fun nv i wr => ∃ (k : Nat) (z : Int), nv = .int .i64 z ∧ i = .int .i64 k ∧ k ≤ n ∧ RowKit.Hid (n ≤ 200 → z = sumL (ls.take k)) ∧ wr = w) (fun _ i _ => n - (RowKit.intOf i).toNat)
  case atStart => exact ⟨0, 0, rfl, rfl, Nat.zero_le _, fun _ => by simp [sumL], rfl⟩
  case round =>
    obtain ⟨k, z, rfl, rfl, hk, HZ, rfl⟩ := hrel
    by_cases hkn : k < n
    · obtain ⟨g1, o1, rfl, hg1, hr1⟩ := R1.out (by omega)
      obtain ⟨x, u0, hx, a0, hA0⟩ := ArgR.get (w := wr) (c := c1) hr1 HN.out E1.out hkn
      have HX := Lib.hid hx
      obtain ⟨A0, c0, rfl, hc0⟩ := hA0.shape
      have hxl := HXS.out x (List.mem_of_getElem? hx)
      have HNX := Lib.hid (show n ≤ 200 → RowKit.wrap64 (z + (1 + (x.length : Int))) = sumL (ls.take (k + 1)) by
        intro h200
        rw [HZ.out h200, sumL_take ls k x HX.out]
        have hb := sumL_bound (ls.take k) (fun y hy => HXS.out y (List.mem_of_mem_take hy))
        have hl : (ls.take k).length ≤ 200 := by rw [List.length_take]; omega
        have hm : (ls.take k).length * 140737488351233 ≤ 200 * 140737488351233 := Nat.mul_le_mul_right _ hl
        rw [IntWalk.wrap64_in _ (by omega)]
        omega)
      clear hr1 hx hA0
      go_wp2
      go_roundw
      case rel => exact ⟨k + 1, _, rfl, by go_num, by omega, HNX.out, by first | rfl | trivial⟩
      case measure => (simp [RowKit.intOf] <;> omega)
    · have hke : k = n := by omega
      subst hke
      have HZ2 := Lib.hid (show k ≤ 200 → z = sumL ls by
        intro h
        have h2 := HZ.out h
        rw [List.take_of_length_le (by have := HN.out; omega)] at h2
        exact h2)
      by_cases hz : 200000 < z
      · have hg := decide_eq_true hz
        go_wp2
        go_ret
        exact ⟨true, rfl, by first | rfl | trivial, fun h => by cases h⟩
      · have hg := decide_eq_false hz
        go_wp2
        go_ret
        refine ⟨_, rfl, by first | rfl | trivial, fun h => ?_⟩
        have h2 : k ≤ 200 := by
          have := of_decide_eq_false h
          omega
        have h3 := HZ2.out h2
        rw [← HN.out]
        exact ⟨h2, by omega⟩
/-- the bodies, encoded. -/
def encs (ls : List (List UInt8)) : List UInt8 := (ls.map encF).flatten
theorem feedL_encs : ∀ (ls : List (List UInt8)) (t : List UInt8), (∀ x ∈ ls, x.length ≤ 65536) → feedL (encs ls ++ t) = (ls ++ (feedL t).1, (feedL t).2)
  | [], t, _ => rfl
  | x :: r, t, h => by
    have e : encs (x :: r) ++ t = encF x ++ (encs r ++ t) := by simp [encs]
    rw [e, feedL_enc x _ (h x List.mem_cons_self), feedL_encs r t (fun y hy => h y (List.mem_cons_of_mem _ hy))]
    rfl
theorem encF_len (l : List UInt8) (hl : l.length ≤ 65536) : (encF l).length ≤ l.length + 30 ∧ l.length < (encF l).length := by
  have h := decDigits_len 5 l.length (by decide) (by have : 10 ^ 5 = 100000 := rfl; omega)
  simp only [encF, headF, List.length_append]
  have h1 : sizeName.length = 16 := rfl
  have h2 : nl2.length = 4 := rfl
  omega
theorem encs_len : ∀ (ls : List (List UInt8)), (∀ x ∈ ls, x.length ≤ 65536) → (encs ls).length ≤ sumL ls + 30 * ls.length
  | [], _ => by simp [encs]
  | x :: r, h => by
    have e : encs (x :: r) = encF x ++ encs r := by simp [encs]
    have h1 := encs_len r (fun y hy => h y (List.mem_cons_of_mem _ hy))
    have h2 := (encF_len x (h x List.mem_cons_self)).1
    rw [e, List.length_append]
    simp only [sumL, List.map_cons, List.sum_cons, List.length_cons] at *
    omega
theorem encs_take (ls : List (List UInt8)) (k : Nat) (x : List UInt8) (hx : ls[k]? = some x) : encs (ls.take (k + 1)) = encs (ls.take k) ++ encF x := by
  rw [List.take_add_one, hx]
  simp [encs]
theorem sumL_le (ls : List (List UInt8)) (k : Nat) : sumL (ls.take k) ≤ sumL ls := by
  have h : sumL ls = sumL (ls.take k) + sumL (ls.drop k) := by
    unfold sumL
    rw [← List.sum_append, ← List.map_append, List.take_append_drop]
  omega
end Go.Proofs.YtphnplpgeoleeaaDoor
