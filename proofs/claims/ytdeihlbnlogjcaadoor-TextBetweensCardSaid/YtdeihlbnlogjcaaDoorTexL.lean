/- The walk of TextRows. -/
import Derived.Test.YtdeihlbnlogjcaaDoorTexK
namespace Go.Proofs.YtdeihlbnlogjcaaDoor
open Go.RowKit Go.Lib Go.Shelf
set_option maxRecDepth 100000
set_option linter.unusedVariables false

theorem valid_app (A B : List UInt8) (h : validD A = true) : validD (A ++ B) = validD B := by
  have := (front_runes (A ++ B) A.length (by rw [List.take_left]; exact h)).2
  rwa [List.drop_left] at this
theorem apE_zero {s : ByteArray} {x : ET} (h : apE s x = 0) : validD x.t.data.toList = true ∧ tOffK s.data.toList x.a x.b = 0 ∧ tOffK s.data.toList x.c x.d = 0 ∧ tOffA s.data.toList x.a x.b ≤ tOffA s.data.toList x.c x.d ∧ (s.size : Int) - (tOffA s.data.toList x.c x.d - tOffA s.data.toList x.a x.b) + x.t.size ≤ 32768 := by
  unfold apE at h
  split at h
  · rename_i h0
    split at h
    · rename_i h1
      split at h
      · rename_i h2
        split at h
        · cases h
        · rename_i h3
          split at h
          · cases h
          · rename_i h4
            exact ⟨h0, h1, h2, by omega, by omega⟩
      · exact absurd h (by assumption)
    · exact absurd h (by assumption)
  · cases h
theorem apT_valid {s : ByteArray} {x : ET} (h : apE s x = 0) : validD (apT s x).data.toList = true := by
  have hL : s.data.toList.length = s.size := by simp
  obtain ⟨h0, h1, h2, -, -⟩ := apE_zero h
  rcases tOff_cases s.data.toList x.a x.b with q | ⟨n, e1, l1, v1, w1⟩
  · exact absurd h1 q
  · rcases tOff_cases s.data.toList x.c x.d with q | ⟨m, e2, l2, v2, w2⟩
    · exact absurd h2 q
    · unfold apT
      rw [e1, e2, ByteArray.data_append, ByteArray.data_append, Array.toList_append, Array.toList_append, Int.toNat_natCast, Int.toNat_natCast, (take_str s n (by omega)).1, drop_str s m (by omega), List.append_assoc, valid_app _ _ w1, valid_app _ _ h0]
      rw [← (front_runes s.data.toList m w2).2]
      exact v2
theorem apR_valid : ∀ (xs : List ET) (s : ByteArray), validD s.data.toList = true → (apR s xs).2 = 0 → validD (apR s xs).1.data.toList = true
  | [], s, hv, _ => hv
  | x :: xs, s, hv, h => by
    unfold apR at h ⊢
    by_cases he : apE s x = 0
    · rw [if_pos he] at h ⊢
      exact apR_valid xs _ (apT_valid he) h
    · rw [if_neg he] at h
      exact absurd h he
theorem apR_size : ∀ (xs : List ET) (s : ByteArray) (N : Nat), 32768 ≤ N → s.size ≤ N → (apR s xs).1.size ≤ N
  | [], s, N, _, h => h
  | x :: xs, s, N, hN, h => by
    unfold apR
    by_cases he : apE s x = 0
    · rw [if_pos he]
      exact apR_size xs _ N hN (Nat.le_trans (apT_size s x he) hN)
    · rw [if_neg he]
      exact Nat.zero_le _
theorem apR_bad : ∀ (xs : List ET) (s : ByteArray), (apR s xs).2 ≠ 0 → (apR s xs).1 = ⟨#[]⟩
  | [], s, h => absurd rfl h
  | x :: xs, s, h => by
    unfold apR at h ⊢
    by_cases he : apE s x = 0
    · rw [if_pos he] at h ⊢
      exact apR_bad xs _ h
    · rw [if_neg he]
theorem apR_app : ∀ (xs ys : List ET) (s : ByteArray), apR s (xs ++ ys) = if (apR s xs).2 = 0 then apR (apR s xs).1 ys else (⟨#[]⟩, (apR s xs).2)
  | [], ys, s => by simp [apR]
  | x :: xs, ys, s => by
    rw [List.cons_append, apR, apR]
    by_cases he : apE s x = 0
    · rw [if_pos he, if_pos he]
      exact apR_app xs ys _
    · rw [if_neg he, if_neg he]
      simp only
      rw [if_neg he]
theorem apA_bad (s : ByteArray) (xs : List ET) (h : apAE s xs ≠ 0) : apAS s xs = ⟨#[]⟩ := by
  unfold apAE at h
  unfold apAS
  split
  · rename_i hv
    rw [if_pos hv] at h
    exact apR_bad xs s h
  · rfl
/-- edits one after the other. -/
theorem apA_app (s : ByteArray) (xs ys : List ET) :
    (apAE s xs ≠ 0 → apAE s (xs ++ ys) = apAE s xs ∧ apAS s (xs ++ ys) = ⟨#[]⟩) ∧ (apAE s xs = 0 → apAE s (xs ++ ys) = apAE (apAS s xs) ys ∧ apAS s (xs ++ ys) = apAS (apAS s xs) ys) := by
  unfold apAE apAS
  by_cases hv : validD s.data.toList = true
  · rw [if_pos hv, if_pos hv, if_pos hv, if_pos hv, apR_app]
    refine ⟨fun h => ?_, fun h => ?_⟩
    · rw [if_neg h]
      exact ⟨rfl, rfl⟩
    · rw [if_pos h, if_pos (apR_valid xs s hv h), if_pos (apR_valid xs s hv h)]
      exact ⟨rfl, rfl⟩
  · rw [if_neg hv, if_neg hv, if_neg hv]
    exact ⟨fun _ => ⟨rfl, rfl⟩, fun h => by cases h⟩
theorem apAS_size (s : ByteArray) (xs : List ET) (N : Nat) (hN : 32768 ≤ N) (h : s.size ≤ N) : (apAS s xs).size ≤ N := by
  unfold apAS
  split
  · exact apR_size xs s N hN h
  · exact Nat.zero_le _
theorem ets_drop (xs : List ET) (k : Nat) : etsCells (xs.drop k) = (etsCells xs).drop (k * 5) := by
  induction xs generalizing k with
  | nil => simp [etsCells]
  | cons y ys ih =>
    cases k with
    | zero => simp
    | succ k =>
      rw [List.drop_succ_cons, ih k, show (k + 1) * 5 = 5 + k * 5 by omega, ← List.drop_drop]
      rfl
theorem ets_take (xs : List ET) (k : Nat) : etsCells (xs.take k) = (etsCells xs).take (k * 5) := by
  induction xs generalizing k with
  | nil => simp [etsCells]
  | cons y ys ih =>
    cases k with
    | zero => simp [etsCells]
    | succ k =>
      have e : etsCells (y :: ys) = etCells y ++ etsCells ys := rfl
      have e2 : etsCells (y :: ys.take k) = etCells y ++ etsCells (ys.take k) := rfl
      have e3 : (etCells y).length = 5 := rfl
      rw [List.take_succ_cons, e, e2, ih k, List.take_append, List.take_of_length_le (l := etCells y) (by omega), e3, show (k + 1) * 5 - 5 = k * 5 by omega]
theorem ArgE.below {w w' : World} {v : Value} {xs : List ET} (h : ArgE w v xs) (hb : Below w.heap.size w w') : ArgE w' v xs := ⟨⟨(h.1.1.below hb).more hb.size, h.1.2⟩, h.2⟩
theorem ArgE.form {w : World} {v : Value} {xs : List ET} (h : ArgE w v xs) : (v = .slice none 0 0 ∧ xs = []) ∨ (∃ ad c, v = .slice (some ad) 0 c ∧ xs = []) ∨ ∃ g o c, v = .slice (some ⟨g, o, none⟩) xs.length c ∧ 0 < xs.length ∧ xs.length ≤ c ∧ g < w.heap.size ∧ ∀ j, j < xs.length * 5 → w.cell? ⟨g, o + j, none⟩ = (etsCells xs)[j]? := by
  obtain ⟨⟨⟨hl, A, c, rfl, hc, hr⟩, h2⟩, -⟩ := h
  rcases Nat.eq_zero_or_pos xs.length with h0 | h0
  · have he : xs = [] := List.eq_nil_of_length_eq_zero h0
    subst he
    rcases h2 with h2 | ⟨a, c', h2⟩
    · exact .inl ⟨h2, rfl⟩
    · rw [h2]
      exact .inr (.inl ⟨a, c', rfl, rfl⟩)
  · obtain ⟨g, o, rfl, hg, hr⟩ := hr h0
    exact .inr (.inr ⟨g, o, c, rfl, h0, hc, hg, hr⟩)
inductive NoneE : Value → Nat → Prop where
  | nil : NoneE (.slice none 0 0) 0
  | some (ad : Addr) {c : Nat} : NoneE (.slice (some ad) 0 c) c
theorem ArgE.none_any {w : World} {v : Value} {c : Nat} (h : NoneE v c) : ArgE w v [] := by
  cases h with
  | nil => exact ⟨⟨Rd.nil _ _ _ _ _, .inl rfl⟩, fun _ h => (by simp at h), by simp⟩
  | some ad => exact ⟨⟨Rd.nil _ _ _ _ _, .inr ⟨ad, c, rfl⟩⟩, fun _ h => (by simp at h), by simp⟩
theorem ArgE.front {w : World} {g o n c k : Nat} {xs : List ET} (hg : g < w.heap.size) (hr : ∀ j, j < n * 5 → w.cell? ⟨g, o + j, none⟩ = (etsCells xs)[j]?) (hn : n = xs.length) (hc : n ≤ c) (hk : k ≤ n)
    (hx : (∀ x ∈ xs, EWf x ∧ x.t.size ≤ 140737488351232) ∧ xs.length ≤ 2932031007403) : ArgE w (.slice (some ⟨g, o, none⟩) k c) (xs.take k) := by
  have hl : (xs.take k).length = k := by rw [List.length_take]; omega
  refine ⟨⟨⟨ets_len _, _, _, by rw [hl], by omega, fun h0 => ⟨g, o, rfl, hg, fun j hj => ?_⟩⟩, .inr ⟨_, _, by rw [hl]⟩⟩, fun x h => hx.1 x (List.mem_of_mem_take h), by omega⟩
  rw [hl] at hj
  rw [hr j (by omega), ets_take, List.getElem?_take, if_pos hj]
theorem ArgE.behind {w : World} {g o n c k : Nat} {xs : List ET} (hg : g < w.heap.size) (hr : ∀ j, j < n * 5 → w.cell? ⟨g, o + j, none⟩ = (etsCells xs)[j]?) (hn : n = xs.length) (hc : n ≤ c) (hk : k ≤ n)
    (hx : (∀ x ∈ xs, EWf x ∧ x.t.size ≤ 140737488351232) ∧ xs.length ≤ 2932031007403) (B : Nat) (hB : k < n → B = o + k * 5) : ArgE w (.slice (some ⟨g, B, none⟩) (n - k) (c - k)) (xs.drop k) := by
  have hl : (xs.drop k).length = n - k := by rw [List.length_drop]; omega
  refine ⟨⟨⟨ets_len _, _, _, by rw [hl], by omega, fun h0 => ⟨g, B, rfl, hg, fun j hj => ?_⟩⟩, .inr ⟨_, _, by rw [hl]⟩⟩, fun x h => hx.1 x (List.mem_of_mem_drop h), by omega⟩
  rw [hl] at hj
  rw [hB (by omega), Nat.add_assoc, hr (k * 5 + j) (by omega), ets_drop, List.getElem?_drop]
/-- what the two calls, of CopyEdits and of Apply, answer together. -/
theorem edOk_of {xs : List ET} (h : ∀ x ∈ xs, EWf x ∧ x.t.size ≤ 140737488351232) (h2 : ∀ x ∈ xs, x.t.size ≤ 100000) : ∀ x ∈ xs, EdOk x := fun x hx => ⟨(h x hx).1, by have := h2 x hx; omega⟩
set_option maxHeartbeats 1000000 in
theorem textRows_main (s : ByteArray) (g o c : Nat) (xs : List ET) (at_ : Int) (w : World) (hs : s.size ≤ 140737488351232) (hv : ArgE w (.slice (some ⟨g, o, none⟩) xs.length c) xs) (h0 : 0 < xs.length) (hc : xs.length ≤ c) (hg : g < w.heap.size) (hr : ∀ j, j < xs.length * 5 → w.cell? ⟨g, o + j, none⟩ = (etsCells xs)[j]?) (hT : Tabs w) (hM : MaxL w) :
    Calls Tryd.prog 16 #[.string s, .slice (some ⟨g, o, none⟩) xs.length c, .int .i64 at_] w (TruePost w) := by
  have hml := Lib.hid (maxL_lt hM)
  obtain ⟨n, hn⟩ : ∃ n, n = xs.length := ⟨_, rfl⟩
  rw [← hn] at hr hc h0 hv ⊢
  have HN := Lib.hid hn
  have HR := Lib.hid hr
  have HV := Lib.hid hv
  clear hn hr hv
  go_enter Tryd.func16, Tryd.ntmps16
  go_wp2_with fail
  refine (alive7_any w hT hM).mono ?_
  rintro e w1 ⟨rfl, hb1⟩
  have HB1 := Lib.hid hb1
  have HV1 := Lib.hid (HV.out.below hb1)
  clear hb1
  go_wp2_with fail
  refine (great_any s _ xs w1 hs HV1.out).mono ?_
  rintro e w2 ⟨rfl, rfl⟩
  cases hgr : grB s.size xs
  · obtain ⟨hs1, hl1, hx1⟩ := grB_no hgr
    rw [← HN.out] at hl1
    have HOK := Lib.hid (edOk_of HV.out.2.1 hx1)
    have HX := Lib.hid HV.out.2
    clear hgr hx1
    by_cases ha0 : at_ < 0
    · go_wp2
      go_ret
      exact ⟨rfl, HB1.out⟩
    · by_cases ha1 : at_ > n
      · go_wp2
        go_ret
        exact ⟨rfl, HB1.out⟩
      · obtain ⟨k, rfl⟩ : ∃ k : Nat, at_ = k := ⟨at_.toNat, by omega⟩
        have hkn : k ≤ n := by omega
        have hkc : k ≤ c := by omega
        obtain ⟨E, hE⟩ : ∃ E, E = apAE s xs := ⟨_, rfl⟩
        obtain ⟨R, hR⟩ : ∃ R, R = apAS s xs := ⟨_, rfl⟩
        obtain ⟨E1, hE1⟩ : ∃ E, E = apAE s (xs.take k) := ⟨_, rfl⟩
        obtain ⟨R1, hR1⟩ : ∃ R, R = apAS s (xs.take k) := ⟨_, rfl⟩
        obtain ⟨E2, hE2⟩ : ∃ E, E = apAE R1 (xs.drop k) := ⟨_, rfl⟩
        obtain ⟨R2, hR2⟩ : ∃ R, R = apAS R1 (xs.drop k) := ⟨_, rfl⟩
        have hap := apA_app s (xs.take k) (xs.drop k)
        rw [List.take_append_drop, ← hE, ← hR, ← hE1, ← hR1, ← hE2, ← hR2] at hap
        have HAP := Lib.hid hap
        have HBD := Lib.hid (apA_bad s (xs.take k))
        rw [← hE1, ← hR1] at HBD
        have hRs : R1.size ≤ 100000 := by rw [hR1]; exact apAS_size _ _ _ (by omega) hs1
        have HA := Lib.hid (fun v W (hv : Rd W W.heap.size 5 v xs.length (etsCells xs)) (hb : Below w.heap.size w W) => apply_any v xs s W hv (by omega) HOK.out (by rw [← HN.out]; omega) (Utf8Tabs_below hT hb) (maxL_below hM hb hml.out))
        have HA1 := Lib.hid (fun v W (hv : Rd W W.heap.size 5 v (xs.take k).length (etsCells (xs.take k))) (hb : Below w.heap.size w W) => apply_any v (xs.take k) s W hv (by omega) (fun x h => HOK.out x (List.mem_of_mem_take h)) (by rw [List.length_take]; omega) (Utf8Tabs_below hT hb) (maxL_below hM hb hml.out))
        have HA2 := Lib.hid (fun v W (hv : Rd W W.heap.size 5 v (xs.drop k).length (etsCells (xs.drop k))) (hb : Below w.heap.size w W) => apply_any v (xs.drop k) R1 W hv (by omega) (fun x h => HOK.out x (List.mem_of_mem_drop h)) (by rw [List.length_drop, ← HN.out]; omega) (Utf8Tabs_below hT hb) (maxL_below hM hb hml.out))
        rw [← hE, ← hR] at HA
        rw [← hE1, ← hR1] at HA1
        rw [← hE2, ← hR2] at HA2
        clear hE hR hE1 hR1 hE2 hR2 hap
        go_wp2_with fail
        refine (copyEdits_any _ xs w1 (HN.out ▸ HV1.out) (by rw [← HN.out]; omega)).mono ?_
        rintro e w3 ⟨v3, rfl, ho, hb3⟩
        have HO3 := Lib.hid (Rd.of_own ho.out)
        have HB3 := Lib.hid (HB1.out.trans (hb3.mono HB1.out.size))
        clear ho hb3
        go_wp2_with fail
        refine (HA.out v3 w3 HO3.out HB3.out).mono ?_
        rintro e w4 ⟨rfl, hb4⟩
        have HB4 := Lib.hid (HB3.out.trans (hb4.mono HB3.out.size))
        clear hb4
        have HR4 := Lib.hid (show ∀ j, j < n * 5 → w4.cell? ⟨g, o + j, none⟩ = (etsCells xs)[j]? from fun j hj => (HB4.out.cell (p := ⟨g, o + j, none⟩) hg).trans (HR.out j hj))
        have HF4 := Lib.hid (ArgE.front (k := k) (show g < w4.heap.size by have := HB4.out.size; omega) HR4.out HN.out hc hkn HX.out)
        go_wp2_with fail
        refine (copyEdits_any _ (xs.take k) w4 HF4.out (by rw [List.length_take]; omega)).mono ?_
        rintro e w5 ⟨v5, rfl, ho, hb5⟩
        have HO5 := Lib.hid (Rd.of_own ho.out)
        have HB5 := Lib.hid (HB4.out.trans (hb5.mono HB4.out.size))
        clear ho hb5
        go_wp2_with fail
        refine (HA1.out v5 w5 HO5.out HB5.out).mono ?_
        rintro e w6 ⟨rfl, hb6⟩
        have HB6 := Lib.hid (HB5.out.trans (hb6.mono HB5.out.size))
        clear hb6
        have HR6 := Lib.hid (show ∀ j, j < n * 5 → w6.cell? ⟨g, o + j, none⟩ = (etsCells xs)[j]? from fun j hj => (HB6.out.cell (p := ⟨g, o + j, none⟩) hg).trans (HR.out j hj))
        by_cases hE1 : E1 = 0
        · obtain ⟨e1, e2⟩ := HAP.out.2 hE1
          subst e1 e2
          by_cases hck : c = k
          · subst hck
            have HF6 := Lib.hid (ArgE.behind (k := c) (show g < w6.heap.size by have := HB6.out.size; omega) HR6.out HN.out hc hkn HX.out o (by omega))
            have h00 : n - c = 0 := by omega
            have h01 : c - c = 0 := Nat.sub_self c
            rw [h00, h01] at HF6
            clear h00 h01
            go_wp2_with fail
            refine (copyEdits_any _ (xs.drop c) w6 HF6.out (by rw [List.length_drop, ← HN.out]; omega)).mono ?_
            rintro e w7 ⟨v7, rfl, ho, hb7⟩
            have HO7 := Lib.hid (Rd.of_own ho.out)
            have HB7 := Lib.hid (HB6.out.trans (hb7.mono HB6.out.size))
            clear ho hb7
            go_wp2_with fail
            refine (HA2.out v7 w7 HO7.out HB7.out).mono ?_
            rintro e w8 ⟨rfl, hb8⟩
            have HB8 := Lib.hid (HB7.out.trans (hb8.mono HB7.out.size))
            clear hb8
            go_wp2
            go_ret
            exact ⟨rfl, HB8.out⟩
          · have HF6 := Lib.hid (ArgE.behind (k := k) (show g < w6.heap.size by have := HB6.out.size; omega) HR6.out HN.out hc hkn HX.out (o + k * 5) (fun _ => rfl))
            go_wp2_with fail
            refine (copyEdits_any _ (xs.drop k) w6 HF6.out (by rw [List.length_drop, ← HN.out]; omega)).mono ?_
            rintro e w7 ⟨v7, rfl, ho, hb7⟩
            have HO7 := Lib.hid (Rd.of_own ho.out)
            have HB7 := Lib.hid (HB6.out.trans (hb7.mono HB6.out.size))
            clear ho hb7
            go_wp2_with fail
            refine (HA2.out v7 w7 HO7.out HB7.out).mono ?_
            rintro e w8 ⟨rfl, hb8⟩
            have HB8 := Lib.hid (HB7.out.trans (hb8.mono HB7.out.size))
            clear hb8
            go_wp2
            go_ret
            exact ⟨rfl, HB8.out⟩
        · obtain ⟨e1, e2⟩ := HAP.out.1 hE1
          have e3 := HBD.out hE1
          subst e1 e2 e3
          go_wp2
          go_ret
          exact ⟨rfl, HB6.out⟩
  · go_wp2
    go_ret
    exact ⟨rfl, HB1.out⟩
set_option maxHeartbeats 1000000 in
/-- no edits. -/
theorem textRows_none (s : ByteArray) (v : Value) (c : Nat) (at_ : Int) (w : World) (hs : s.size ≤ 140737488351232) (hv : NoneE v c) (hT : Tabs w) (hM : MaxL w) :
    Calls Tryd.prog 16 #[.string s, v, .int .i64 at_] w (TruePost w) := by
  have hml := Lib.hid (maxL_lt hM)
  cases hv
  all_goals
    go_enter Tryd.func16, Tryd.ntmps16
    go_wp2_with fail
    refine (alive7_any w hT hM).mono ?_
    rintro e w1 ⟨rfl, hb1⟩
    have HB1 := Lib.hid hb1
    clear hb1
    go_wp2_with fail
    refine (great_any s _ [] w1 hs (ArgE.none_any (by constructor))).mono ?_
    rintro e w2 ⟨rfl, rfl⟩
    cases hgr : grB s.size []
    · obtain ⟨hs1, -, -⟩ := grB_no hgr
      clear hgr
      by_cases ha0 : at_ = 0
      · subst ha0
        obtain ⟨E, hE⟩ : ∃ E, E = apAE s [] := ⟨_, rfl⟩
        obtain ⟨R, hR⟩ : ∃ R, R = apAS s [] := ⟨_, rfl⟩
        obtain ⟨E2, hE2⟩ : ∃ E, E = apAE R [] := ⟨_, rfl⟩
        obtain ⟨R2, hR2⟩ : ∃ R', R' = apAS R [] := ⟨_, rfl⟩
        have hap := apA_app s [] []
        rw [List.append_nil, ← hE, ← hR, ← hE2, ← hR2] at hap
        have HAP := Lib.hid hap
        have hRs : R.size ≤ 100000 := by rw [hR]; exact apAS_size _ _ _ (by omega) hs1
        have HA := Lib.hid (fun v W (hv : Rd W W.heap.size 5 v ([] : List ET).length (etsCells [])) (hb : Below w.heap.size w W) => apply_any v [] s W hv (by omega) (fun x h => by simp at h) (by simp) (Utf8Tabs_below hT hb) (maxL_below hM hb hml.out))
        have HA2 := Lib.hid (fun v W (hv : Rd W W.heap.size 5 v ([] : List ET).length (etsCells [])) (hb : Below w.heap.size w W) => apply_any v [] R W hv (by omega) (fun x h => by simp at h) (by simp) (Utf8Tabs_below hT hb) (maxL_below hM hb hml.out))
        rw [← hE, ← hR] at HA
        rw [← hE2, ← hR2] at HA2
        clear hE hR hE2 hR2 hap
        go_wp2_with fail
        refine (copyEdits_any _ [] w1 (ArgE.none_any (by constructor)) (by simp)).mono ?_
        rintro e w3 ⟨v3, rfl, ho, hb3⟩
        have HO3 := Lib.hid (Rd.of_own ho.out)
        have HB3 := Lib.hid (HB1.out.trans (hb3.mono HB1.out.size))
        clear ho hb3
        go_wp2_with fail
        refine (HA.out v3 w3 HO3.out HB3.out).mono ?_
        rintro e w4 ⟨rfl, hb4⟩
        have HB4 := Lib.hid (HB3.out.trans (hb4.mono HB3.out.size))
        clear hb4
        go_wp2_with fail
        refine (copyEdits_any _ [] w4 (ArgE.none_any (by constructor)) (by simp)).mono ?_
        rintro e w5 ⟨v5, rfl, ho, hb5⟩
        have HO5 := Lib.hid (Rd.of_own ho.out)
        have HB5 := Lib.hid (HB4.out.trans (hb5.mono HB4.out.size))
        clear ho hb5
        go_wp2_with fail
        refine (HA.out v5 w5 HO5.out HB5.out).mono ?_
        rintro e w6 ⟨rfl, hb6⟩
        have HB6 := Lib.hid (HB5.out.trans (hb6.mono HB5.out.size))
        clear hb6
        by_cases hE1 : E = 0
        · obtain ⟨e1, e2⟩ := HAP.out.2 hE1
          subst e1 e2
          go_wp2_with fail
          refine (copyEdits_any _ [] w6 (ArgE.none_any (by constructor)) (by simp)).mono ?_
          rintro e w7 ⟨v7, rfl, ho, hb7⟩
          have HO7 := Lib.hid (Rd.of_own ho.out)
          have HB7 := Lib.hid (HB6.out.trans (hb7.mono HB6.out.size))
          clear ho hb7
          go_wp2_with fail
          refine (HA2.out v7 w7 HO7.out HB7.out).mono ?_
          rintro e w8 ⟨rfl, hb8⟩
          have HB8 := Lib.hid (HB7.out.trans (hb8.mono HB7.out.size))
          clear hb8
          go_wp2
          go_ret
          exact ⟨rfl, HB8.out⟩
        · have e2 := (HAP.out.1 hE1).2
          subst e2
          go_wp2
          go_ret
          exact ⟨rfl, HB6.out⟩
      · by_cases ha1 : at_ < 0
        · go_wp2
          go_ret
          exact ⟨rfl, HB1.out⟩
        · have ha2 : at_ > 0 := by omega
          go_wp2
          go_ret
          exact ⟨rfl, HB1.out⟩
    · go_wp2
      go_ret
      exact ⟨rfl, HB1.out⟩
theorem textRows_walk (s : ByteArray) (v : Value) (xs : List ET) (at_ : Int) (w : World) (hs : s.size ≤ 140737488351232) (hv : ArgE w v xs) (_ : (Lit.int .i64 at_).wf = true) (hT : Tabs w) (hM : MaxL w) :
    Calls Tryd.prog 16 #[.string s, v, .int .i64 at_] w (TruePost w) := by
  rcases hv.form with ⟨rfl, rfl⟩ | ⟨ad, c, rfl, rfl⟩ | ⟨g, o, c, rfl, hpos, hc, hg, hr⟩
  · exact textRows_none s _ 0 at_ w hs .nil hT hM
  · exact textRows_none s _ c at_ w hs (.some ad) hT hM
  · exact textRows_main s g o c xs at_ w hs hv hpos hc hg hr hT hM
end Go.Proofs.YtdeihlbnlogjcaaDoor
