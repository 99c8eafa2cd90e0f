/- The contracts of SameInts, SameBytes, CopyInts, CopyBytes. -/
import Derived.Test.YtdeihlbnlogjcaaDoorUtfH
import Derived.BigQuiet
namespace Go.Proofs.YtdeihlbnlogjcaaDoor
open Go.RowKit Go.Lib Go.Shelf
set_option maxRecDepth 100000
set_option linter.unusedVariables false
set_option linter.unusedSectionVars false

theorem take_near {α : Type} {l m : List α} {k : Nat} {x y : α} (hx : l[k]? = some x) (hy : m[k]? = some y) (h : x = y) (he : l.take k = m.take k) : l.take (k + 1) = m.take (k + 1) := by
  rw [List.take_add_one, List.take_add_one, he, hx, hy, h]
theorem far_get {α : Type} [DecidableEq α] {l m : List α} {k : Nat} {x y : α} (hx : l[k]? = some x) (hy : m[k]? = some y) (h : x ≠ y) : false = decide (l = m) := by
  symm
  rw [decide_eq_false_iff_not]
  rintro rfl
  rw [hx] at hy
  exact h (Option.some.inj hy)
def SameP {α : Type} [DecidableEq α] (l m : List α) (w : World) (e : Ending) (w' : World) : Prop := e = .returned (.bool (decide (l = m))) ∧ ∃ q, w' = w.drewN q
theorem rd_byte {w : World} {g o n : Nat} {l : List UInt8} (hr : ∀ j, j < n * 1 → w.cell? ⟨g, o + j, none⟩ = (bytesV l)[j]?) (hn : n = l.length) {k : Nat} (h : k < n) : ∃ x, l[k]? = some x ∧ w.cell? ⟨g, o + k, none⟩ = some (.int .u8 (x.toNat : Int)) := by
  subst hn
  refine ⟨l[k], List.getElem?_eq_getElem h, ?_⟩
  rw [hr k (by omega)]
  exact bytesV_get l k h
theorem byte_ne {x y : UInt8} (h : ((x.toNat : Int) != (y.toNat : Int)) = true) : x ≠ y := by
  rintro rfl
  simp at h
theorem byte_eq {x y : UInt8} (h : ((x.toNat : Int) != (y.toNat : Int)) = false) : x = y := by
  have : (x.toNat : Int) = y.toNat := by simpa using h
  exact UInt8.toNat_inj.1 (by omega)
theorem int_ne {x y : Int} (h : (x != y) = true) : x ≠ y := by simpa using h
theorem int_eq {x y : Int} (h : (x != y) = false) : x = y := by simpa using h
set_option maxHeartbeats 1000000 in
theorem sameInts_any (v1 v2 : Value) (l m : List Int) (w : World) (B1 B2 : Nat) (h1 : Rd w B1 1 v1 l.length (intsV l)) (h2 : Rd w B2 1 v2 m.length (intsV m)) (hb : l.length ≤ 1152921504606846976) (hb2 : m.length ≤ 1152921504606846976) :
    Calls Tryd.prog 26 #[v1, v2] w (SameP l m w) := by
  obtain ⟨hl1, A1, c1, rfl, hc1, h1⟩ := h1
  obtain ⟨hl2, A2, c2, rfl, hc2, h2⟩ := h2
  by_cases hlen : l.length = m.length
  · rcases Nat.eq_zero_or_pos l.length with h0 | h0
    · have e1 : l = [] := List.eq_nil_of_length_eq_zero h0
      have e2 : m = [] := List.eq_nil_of_length_eq_zero (by omega)
      subst e1 e2
      simp only [List.length_nil] at *
      clear h1 h2 hlen
      go_enter Tryd.func26, Tryd.ntmps26
      go_wp2
      go_loop [5] (fun i => i = .int .i64 0) (fun _ => 0)
      case atStart => rfl
      case round =>
        obtain rfl := hrel
        go_wp2
        go_ret
        exact ⟨rfl, 0, rfl⟩
    · obtain ⟨g1, o1, rfl, hg1, hr1⟩ := h1 h0
      obtain ⟨g2, o2, rfl, hg2, hr2⟩ := h2 (by omega)
      obtain ⟨n, hn⟩ : ∃ n, n = l.length := ⟨_, rfl⟩
      rw [← hlen] at hr2 hc2 ⊢
      rw [← hn] at h0 hr1 hr2 hc1 hc2 hb ⊢
      have HL := Lib.hid hlen
      have HN := Lib.hid hn
      have R1 := Lib.hid hr1
      have R2 := Lib.hid hr2
      clear hlen hn hr1 hr2 hl1 hl2 h1 h2
      go_enter Tryd.func26, Tryd.ntmps26
      go_wp2
      go_loopw [5] (fun i wr => ∃ k q : Nat, k ≤ n ∧ i = .int .i64 k ∧ wr = w.drewN q ∧ l.take k = m.take k) (fun i _ => n - (RowKit.intOf i).toNat)
      case atStart => exact ⟨0, 0, by omega, rfl, rfl, by simp⟩
      case round =>
        obtain ⟨k, q, hk, rfl, rfl, heq⟩ := hrel
        have HE := Lib.hid heq
        clear heq
        by_cases hlt : k < n
        · obtain ⟨x, hx, a0⟩ := rd_int R1.out HN.out hlt
          obtain ⟨y, hy, b0⟩ := rd_int R2.out (HN.out.trans HL.out) hlt
          have HX := Lib.hid hx
          have HY := Lib.hid hy
          clear hx hy
          go_wp2
          go_quiet (fail)
          go_wp2
          · rename_i h
            go_ret
            exact ⟨ret_bool (far_get HX.out HY.out (int_ne h)), q + nq, World.drewN_drewN _ _ _⟩
          · rename_i h
            go_roundw
            case rel => exact ⟨k + 1, q + nq, by omega, by go_num, rfl, take_near HX.out HY.out (int_eq h) HE.out⟩
            case measure => simp [RowKit.intOf]; omega
        · go_wp2
          go_ret
          refine ⟨ret_bool ?_, q, rfl⟩
          have e := HE.out
          rw [List.take_of_length_le (by have := HN.out; omega), List.take_of_length_le (by have := HN.out; have := HL.out; omega)] at e
          rw [e]; simp
  · have hne : ((l.length : Int) != m.length) = true := by simp; omega
    have hd : false = decide (l = m) := by
      symm
      rw [decide_eq_false_iff_not]
      rintro rfl
      exact hlen rfl
    have HD := Lib.hid hd
    clear hd hlen h1 h2 hl1 hl2
    go_enter Tryd.func26, Tryd.ntmps26
    go_wp2
    go_ret
    exact ⟨ret_bool HD.out, 0, rfl⟩
theorem sameInts_yes (v1 v2 : Value) (l : List Int) (w : World) (B1 B2 : Nat) (h1 : Rd w B1 1 v1 l.length (intsV l)) (h2 : Rd w B2 1 v2 l.length (intsV l)) (hb : l.length ≤ 1152921504606846976) :
    Calls Tryd.prog 26 #[v1, v2] w fun e w' => e = .returned (.bool true) ∧ ∃ q, w' = w.drewN q :=
  (sameInts_any v1 v2 l l w B1 B2 h1 h2 hb hb).mono fun e w' h => ⟨h.1.trans (ret_bool (by simp)), h.2⟩
/-- a slice that came in and reads as these numbers. -/
def ArgI (w : World) (v : Value) (l : List Int) : Prop := Rd w w.heap.size 1 v l.length (intsV l) ∧ (v = .slice none 0 0 ∨ ∃ a c, v = .slice (some a) l.length c)
theorem ArgI.at {w : World} {ad : Addr} {n c : Nat} {l : List Int} (h : Rd w w.heap.size 1 (.slice (some ad) n c) n (intsV l)) (o : Obj) : ∀ (j : Nat) (u : Value), (intsV l)[j]? = some u → (w.alloc o).cell? (ad.add j) = some u := by
  intro j u hu
  have hj : j < (intsV l).length := (List.getElem?_eq_some_iff.1 hu).1
  obtain ⟨hln, A, c', e, _, hr⟩ := h
  obtain ⟨g, o', rfl, hg, hr⟩ := hr (by omega)
  simp only [Value.slice.injEq, Option.some.injEq] at e
  obtain ⟨rfl, _, _⟩ := e
  rw [add_off, ((Below.refl w.heap.size w).alloc (Nat.le_refl _) o).cell (p := ⟨g, o' + j, none⟩) hg, hr j (by omega)]
  exact hu
theorem copyInts_any (v : Value) (l : List Int) (w : World) (h : ArgI w v l) (hl : l.length ≤ 1099511627776) :
    Calls Tryd.prog 29 #[v] w fun e w' => ∃ v', e = .returned v' ∧ RowKit.Hid (v' ≠ .slice none 0 0 ∧ w'.ownsRow w.heap.size 3 1 v' l.length (intsV l)) ∧ Below w.heap.size w w' := by
  obtain ⟨h1, h2⟩ := h
  obtain ⟨i0, hi, hz0, hz1, hz2⟩ := info_parts infoInt
  have HO := Lib.hid (World.ownsRow_lit (e := 3) (size := 1) w #[] 0 (Nat.le_refl _) (by unfold maxLen; omega) rfl)
  obtain ⟨n, hn⟩ : ∃ n, n = l.length := ⟨_, rfl⟩
  rw [← hn] at h1 h2 hl ⊢
  have HR := Lib.hid h1
  have HN := Lib.hid hn
  clear h1 hn
  rcases h2 with rfl | ⟨ad, c, rfl⟩
  · have hn0 : n = 0 := by
      obtain ⟨_, A, c', e, _⟩ := HR.out
      simp only [Value.slice.injEq] at e
      omega
    subst hn0
    go_enter Tryd.func29, Tryd.ntmps29
    go_wp2
    go_ret
    obtain rfl : l = [] := List.eq_nil_of_length_eq_zero HN.out.symm
    exact ⟨_, rfl, ⟨by simp, HO.out⟩, (Below.refl _ _).alloc (Nat.le_refl _) _⟩
  · have HR1 := Lib.hid (ArgI.at HR.out (.cells #[] 3))
    go_enter Tryd.func29, Tryd.ntmps29
    go_wp2_with (at_builtin; refine wpList_append_own _ rfl _ _ 27 rfl w.heap.size 3 i0 _ 1 8 Tryd.underlying27 hi hz0 hz1 hz2 rfl (by decide) _ _ _ rfl HO.out ad n c (intsV l) rfl (by rw [intsV_len, HN.out, Nat.mul_one]) HR1.out (intsV_plain _) (by unfold maxLen; omega) (by omega) (by simp) ?_; intro v' w1 hown hgrow hnil)
    go_ret
    refine ⟨_, rfl, ⟨fun e => by (have h : Value.slice (some ⟨w.heap.size, 0, none⟩) 0 0 = .slice none 0 0 := (hnil.1 e).1); simp at h, ?_⟩, ((Below.refl _ _).alloc (Nat.le_refl _) _).grown hgrow (by simp) (fun g e => by cases e; exact Nat.le_refl _)⟩
    rw [Nat.zero_add] at hown
    exact hown
set_option maxHeartbeats 1000000 in
theorem sameBytes_any (v1 v2 : Value) (l m : List UInt8) (w : World) (B1 B2 : Nat) (h1 : Rd w B1 1 v1 l.length (bytesV l)) (h2 : Rd w B2 1 v2 m.length (bytesV m)) (hb : l.length ≤ 1152921504606846976) (hb2 : m.length ≤ 1152921504606846976) :
    Calls Tryd.prog 23 #[v1, v2] w (SameP l m w) := by
  obtain ⟨hl1, A1, c1, rfl, hc1, h1⟩ := h1
  obtain ⟨hl2, A2, c2, rfl, hc2, h2⟩ := h2
  by_cases hlen : l.length = m.length
  · rcases Nat.eq_zero_or_pos l.length with h0 | h0
    · have e1 : l = [] := List.eq_nil_of_length_eq_zero h0
      have e2 : m = [] := List.eq_nil_of_length_eq_zero (by omega)
      subst e1 e2
      simp only [List.length_nil] at *
      clear h1 h2 hlen
      go_enter Tryd.func23, Tryd.ntmps23
      go_wp2
      go_loop [5] (fun i => i = .int .i64 0) (fun _ => 0)
      case atStart => rfl
      case round =>
        obtain rfl := hrel
        go_wp2
        go_ret
        exact ⟨rfl, 0, rfl⟩
    · obtain ⟨g1, o1, rfl, hg1, hr1⟩ := h1 h0
      obtain ⟨g2, o2, rfl, hg2, hr2⟩ := h2 (by omega)
      obtain ⟨n, hn⟩ : ∃ n, n = l.length := ⟨_, rfl⟩
      rw [← hlen] at hr2 hc2 ⊢
      rw [← hn] at h0 hr1 hr2 hc1 hc2 hb ⊢
      have HL := Lib.hid hlen
      have HN := Lib.hid hn
      have R1 := Lib.hid hr1
      have R2 := Lib.hid hr2
      clear hlen hn hr1 hr2 hl1 hl2 h1 h2
      go_enter Tryd.func23, Tryd.ntmps23
      go_wp2
      go_loopw [5] (fun i wr => ∃ k q : Nat, k ≤ n ∧ i = .int .i64 k ∧ wr = w.drewN q ∧ l.take k = m.take k) (fun i _ => n - (RowKit.intOf i).toNat)
      case atStart => exact ⟨0, 0, by omega, rfl, rfl, by simp⟩
      case round =>
        obtain ⟨k, q, hk, rfl, rfl, heq⟩ := hrel
        have HE := Lib.hid heq
        clear heq
        by_cases hlt : k < n
        · obtain ⟨x, hx, a0⟩ := rd_byte R1.out HN.out hlt
          obtain ⟨y, hy, b0⟩ := rd_byte R2.out (HN.out.trans HL.out) hlt
          have HX := Lib.hid hx
          have HY := Lib.hid hy
          clear hx hy
          go_wp2
          go_quiet (fail)
          go_wp2
          · rename_i h
            go_ret
            exact ⟨ret_bool (far_get HX.out HY.out (byte_ne h)), q + nq, World.drewN_drewN _ _ _⟩
          · rename_i h
            go_roundw
            case rel => exact ⟨k + 1, q + nq, by omega, by go_num, rfl, take_near HX.out HY.out (byte_eq h) HE.out⟩
            case measure => simp [RowKit.intOf]; omega
        · go_wp2
          go_ret
          refine ⟨ret_bool ?_, q, rfl⟩
          have e := HE.out
          rw [List.take_of_length_le (by have := HN.out; omega), List.take_of_length_le (by have := HN.out; have := HL.out; omega)] at e
          rw [e]; simp
  · have hne : ((l.length : Int) != m.length) = true := by simp; omega
    have hd : false = decide (l = m) := by
      symm
      rw [decide_eq_false_iff_not]
      rintro rfl
      exact hlen rfl
    have HD := Lib.hid hd
    clear hd hlen h1 h2 hl1 hl2
    go_enter Tryd.func23, Tryd.ntmps23
    go_wp2
    go_ret
    exact ⟨ret_bool HD.out, 0, rfl⟩
theorem sameBytes_yes (v1 v2 : Value) (l : List UInt8) (w : World) (B1 B2 : Nat) (h1 : Rd w B1 1 v1 l.length (bytesV l)) (h2 : Rd w B2 1 v2 l.length (bytesV l)) (hb : l.length ≤ 1152921504606846976) :
    Calls Tryd.prog 23 #[v1, v2] w fun e w' => e = .returned (.bool true) ∧ ∃ q, w' = w.drewN q :=
  (sameBytes_any v1 v2 l l w B1 B2 h1 h2 hb hb).mono fun e w' h => ⟨h.1.trans (ret_bool (by simp)), h.2⟩
/-- a slice that came in and reads as these numbers. -/
def ArgB (w : World) (v : Value) (l : List UInt8) : Prop := Rd w w.heap.size 1 v l.length (bytesV l) ∧ (v = .slice none 0 0 ∨ ∃ a c, v = .slice (some a) l.length c)
theorem ArgB.at {w : World} {ad : Addr} {n c : Nat} {l : List UInt8} (h : Rd w w.heap.size 1 (.slice (some ad) n c) n (bytesV l)) (o : Obj) : ∀ (j : Nat) (u : Value), (bytesV l)[j]? = some u → (w.alloc o).cell? (ad.add j) = some u := by
  intro j u hu
  have hj : j < (bytesV l).length := (List.getElem?_eq_some_iff.1 hu).1
  obtain ⟨hln, A, c', e, _, hr⟩ := h
  obtain ⟨g, o', rfl, hg, hr⟩ := hr (by omega)
  simp only [Value.slice.injEq, Option.some.injEq] at e
  obtain ⟨rfl, _, _⟩ := e
  rw [add_off, ((Below.refl w.heap.size w).alloc (Nat.le_refl _) o).cell (p := ⟨g, o' + j, none⟩) hg, hr j (by omega)]
  exact hu
theorem copyBytes_any (v : Value) (l : List UInt8) (w : World) (h : ArgB w v l) (hl : l.length ≤ 1099511627776) :
    Calls Tryd.prog 38 #[v] w fun e w' => ∃ v', e = .returned v' ∧ RowKit.Hid (v' ≠ .slice none 0 0 ∧ w'.ownsRow w.heap.size 5 1 v' l.length (bytesV l)) ∧ Below w.heap.size w w' := by
  obtain ⟨h1, h2⟩ := h
  obtain ⟨i0, hi, hz0, hz1, hz2⟩ := info_parts infoByte
  have HO := Lib.hid (World.ownsRow_lit (e := 5) (size := 1) w #[] 0 (Nat.le_refl _) (by unfold maxLen; omega) rfl)
  obtain ⟨n, hn⟩ : ∃ n, n = l.length := ⟨_, rfl⟩
  rw [← hn] at h1 h2 hl ⊢
  have HR := Lib.hid h1
  have HN := Lib.hid hn
  clear h1 hn
  rcases h2 with rfl | ⟨ad, c, rfl⟩
  · have hn0 : n = 0 := by
      obtain ⟨_, A, c', e, _⟩ := HR.out
      simp only [Value.slice.injEq] at e
      omega
    subst hn0
    go_enter Tryd.func38, Tryd.ntmps38
    go_wp2
    go_ret
    obtain rfl : l = [] := List.eq_nil_of_length_eq_zero HN.out.symm
    exact ⟨_, rfl, ⟨by simp, HO.out⟩, (Below.refl _ _).alloc (Nat.le_refl _) _⟩
  · have HR1 := Lib.hid (ArgB.at HR.out (.cells #[] 5))
    go_enter Tryd.func38, Tryd.ntmps38
    go_wp2_with (at_builtin; refine wpList_append_own _ rfl _ _ 22 rfl w.heap.size 5 i0 _ 1 1 Tryd.underlying22 hi hz0 hz1 hz2 rfl (by decide) _ _ _ rfl HO.out ad n c (bytesV l) rfl (by rw [bytesV_len, HN.out, Nat.mul_one]) HR1.out (bytesV_plain _) (by unfold maxLen; omega) (by omega) (by simp) ?_; intro v' w1 hown hgrow hnil)
    go_ret
    refine ⟨_, rfl, ⟨fun e => by (have h : Value.slice (some ⟨w.heap.size, 0, none⟩) 0 0 = .slice none 0 0 := (hnil.1 e).1); simp at h, ?_⟩, ((Below.refl _ _).alloc (Nat.le_refl _) _).grown hgrow (by simp) (fun g e => by cases e; exact Nat.le_refl _)⟩
    rw [Nat.zero_add] at hown
    exact hown
end Go.Proofs.YtdeihlbnlogjcaaDoor
