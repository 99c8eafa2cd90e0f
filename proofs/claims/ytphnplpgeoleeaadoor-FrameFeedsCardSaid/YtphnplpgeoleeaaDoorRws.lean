/- Rows of rows of bytes: what they read as, and SameRows. -/
import Derived.Test.YtphnplpgeoleeaaDoorByt
namespace Go.Proofs.YtphnplpgeoleeaaDoor
open Go.RowKit Go.Lib Go.ChangeShapes Go.WideShapes
set_option maxRecDepth 100000
set_option linter.unusedVariables false
set_option linter.unusedSectionVars false

/-- the slice value v reads as these rows of bytes. -/
def ArgR (w : World) (v : Value) (ls : List (List UInt8)) : Prop := ∃ vs, Rd w w.heap.size 1 v ls.length vs ∧ (v = .slice none 0 0 ∨ ∃ a c, v = .slice (some a) ls.length c) ∧ ∀ (i : Nat) x, ls[i]? = some x → ∃ u, vs[i]? = some u ∧ ArgB w u x
theorem argB_below {w w' : World} {v : Value} {L : List UInt8} (h : ArgB w v L) (hb : Below w.heap.size w w') : ArgB w' v L := ⟨(h.1.below hb).more hb.size, h.2⟩
theorem ArgR.below {w w' : World} {v : Value} {ls : List (List UInt8)} (h : ArgR w v ls) (hb : Below w.heap.size w w') : ArgR w' v ls := by
  obtain ⟨vs, h1, h2, h3⟩ := h
  refine ⟨vs, (h1.below hb).more hb.size, h2, fun i x hi => ?_⟩
  obtain ⟨u, hu, ha⟩ := h3 i x hi
  exact ⟨u, hu, argB_below ha hb⟩
theorem ArgR.nil (w : World) : ArgR w (.slice none 0 0) [] := ⟨[], Rd.nil _ _ _ _ _, .inl rfl, fun i x h => by simp at h⟩
/-- the row in place k. -/
theorem ArgR.get {w : World} {g o c n : Nat} {ls : List (List UInt8)} {vs : List Value} (hr : ∀ j, j < n * 1 → w.cell? ⟨g, o + j, none⟩ = vs[j]?) (hn : n = ls.length) (h3 : ∀ (i : Nat) x, ls[i]? = some x → ∃ u, vs[i]? = some u ∧ ArgB w u x) {k : Nat} (hk : k < n) : ∃ x u, ls[k]? = some x ∧ w.cell? ⟨g, o + k, none⟩ = some u ∧ ArgB w u x := by
  subst hn
  obtain ⟨u, hu, ha⟩ := h3 k ls[k] (List.getElem?_eq_getElem hk)
  exact ⟨ls[k], u, List.getElem?_eq_getElem hk, by rw [hr k (by omega)]; exact hu, ha⟩
def smallRows (ls : List (List UInt8)) : Prop := ∀ x ∈ ls, x.length ≤ 1152921504606846976
theorem SameRowsAt (u1 u2 : Value) (x y : List UInt8) (w : World) (q : Nat) (h1 : ArgB w u1 x) (h2 : ArgB w u2 y) (hb1 : x.length ≤ 1152921504606846976) (hb2 : y.length ≤ 1152921504606846976) : Calls Tryd.prog 19 #[u1, u2] (w.drewN q) fun e w'' => e = .returned (.bool (decide (x = y))) ∧ ∃ m, w'' = w.drewN m :=
  (sameBytes_any u1 u2 x y (w.drewN q) w.heap.size w.heap.size h1.1 h2.1 hb1 hb2).mono fun e w'' ⟨he, m, hw⟩ => ⟨he, q + m, by rw [hw, World.drewN_drewN]⟩
set_option maxHeartbeats 1000000 in
theorem sameRows_any (v1 v2 : Value) (l m : List (List UInt8)) (w : World) (h1 : ArgR w v1 l) (h2 : ArgR w v2 m) (hs1 : smallRows l) (hs2 : smallRows m) (hb : l.length ≤ 1152921504606846976) (hb2 : m.length ≤ 1152921504606846976) :
    Calls Tryd.prog 16 #[v1, v2] w (SameP l m w) := by
  obtain ⟨vs1, ⟨hl1, A1, c1, rfl, hc1, h1⟩, -, he1⟩ := h1
  obtain ⟨vs2, ⟨hl2, A2, c2, rfl, hc2, h2⟩, -, he2⟩ := h2
  by_cases hlen : l.length = m.length
  · rcases Nat.eq_zero_or_pos l.length with h0 | h0
    · have e1 : l = [] := List.eq_nil_of_length_eq_zero h0
      have e2 : m = [] := List.eq_nil_of_length_eq_zero (by omega)
      subst e1 e2
      simp only [List.length_nil] at *
      clear h1 h2 hlen he1 he2 hs1 hs2
      go_enter Tryd.func16, Tryd.ntmps16
      go_wp2
      go_loop [5] (fun i => i = .int .i64 0) (fun _ => 0)
      case atStart => rfl
      case round =>
        obtain rfl := hrel
        go_wp2
        go_ret
        exact ⟨rfl, 0, rfl⟩
    · obtain ⟨g1, o1, rfl, hg1, hr1⟩ := h1 h0
      obtain ⟨g2, o2, rfl, hg2, hr2⟩ := h2 (by omega)
      obtain ⟨n, hn⟩ : ∃ n, n = l.length := ⟨_, rfl⟩
      rw [← hlen] at hr2 hc2 ⊢
      rw [← hn] at h0 hr1 hr2 hc1 hc2 hb ⊢
      have HL := Lib.hid hlen
      have HN := Lib.hid hn
      have R1 := Lib.hid hr1
      have R2 := Lib.hid hr2
      have E1 := Lib.hid he1
      have E2 := Lib.hid he2
      have S1 := Lib.hid hs1
      have S2 := Lib.hid hs2
      clear hlen hn hr1 hr2 hl1 hl2 h1 h2 he1 he2 hs1 hs2
      go_enter Tryd.func16, Tryd.ntmps16
      go_wp2
      go_loopw [5] (fun i wr => ∃ k : Nat, k ≤ n ∧ i = .int .i64 k ∧ RowKit.Hid (∃ q, wr = w.drewN q) ∧ l.take k = m.take k) (fun i _ => n - (RowKit.intOf i).toNat)
      case atStart => exact ⟨0, by omega, rfl, ⟨0, rfl⟩, by simp⟩
      case round =>
        obtain ⟨k, hk, rfl, HW, heq⟩ := hrel
        have HE := Lib.hid heq
        clear heq
        by_cases hlt : k < n
        · obtain ⟨x, u1, hx, a0, hA1⟩ := ArgR.get (w := w) (c := c1) R1.out HN.out E1.out hlt
          obtain ⟨y, u2, hy, b0, hA2⟩ := ArgR.get (w := w) (c := c2) R2.out (HN.out.trans HL.out) E2.out hlt
          have HB := Lib.hid (show Below w.heap.size w wr by obtain ⟨q, hq⟩ := HW.out; rw [hq]; exact below_drewN (Below.refl _ _) q)
          have hA1 := argB_below hA1 HB.out
          have hA2 := argB_below hA2 HB.out
          have a0 := (HB.out.cell (p := ⟨g1, o1 + k, none⟩) hg1).trans a0
          have b0 := (HB.out.cell (p := ⟨g2, o2 + k, none⟩) hg2).trans b0
          have HX := Lib.hid hx
          have HY := Lib.hid hy
          have HC := Lib.hid (fun n => SameRowsAt u1 u2 x y wr n hA1 hA2 (S1.out x (List.mem_of_getElem? hx)) (S2.out y (List.mem_of_getElem? hy)))
          clear hx hy hA1 hA2
          go_wp2
          go_quiet ((go_at_call 19; exact HC.out _))
          go_wp2
          · rename_i h
            go_ret
            exact ⟨ret_bool (far_get HX.out HY.out (by simpa using h)), by obtain ⟨p, hp⟩ := HW.out; exact ⟨p + nq, by rw [hp, World.drewN_drewN]⟩⟩
          · rename_i h
            go_roundw
            case rel => exact ⟨k + 1, by omega, by go_num, by obtain ⟨p, hp⟩ := HW.out; exact ⟨p + nq, by rw [hp, World.drewN_drewN]⟩, take_near HX.out HY.out (by simpa using h) HE.out⟩
            case measure => simp [RowKit.intOf]; omega
        · go_wp2
          go_ret
          refine ⟨ret_bool ?_, HW.out⟩
          have e := HE.out
          rw [List.take_of_length_le (by have := HN.out; omega), List.take_of_length_le (by have := HN.out; have := HL.out; omega)] at e
          rw [e]; simp
  · have hne : ((l.length : Int) != m.length) = true := by simp; omega
    have hd : false = decide (l = m) := by
      symm
      rw [decide_eq_false_iff_not]
      rintro rfl
      exact hlen rfl
    have HD := Lib.hid hd
    clear hd hlen h1 h2 hl1 hl2 he1 he2 hs1 hs2
    go_enter Tryd.func16, Tryd.ntmps16
    go_wp2
    go_ret
    exact ⟨ret_bool HD.out, 0, rfl⟩
end Go.Proofs.YtphnplpgeoleeaaDoor
