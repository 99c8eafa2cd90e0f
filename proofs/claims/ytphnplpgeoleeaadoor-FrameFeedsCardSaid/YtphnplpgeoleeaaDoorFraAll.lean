/- Rows joined; what a decoder tells of pieces. -/
import Derived.Test.YtphnplpgeoleeaaDoorFraS
import Derived.Test.YtphnplpgeoleeaaDoorFraN
import Derived.Test.YtphnplpgeoleeaaDoorFraMem
namespace Go.Proofs.YtphnplpgeoleeaaDoor
open Go.RowKit Go.Lib Go.Shelf
set_option maxRecDepth 100000
set_option linter.unusedVariables false
set_option linter.unusedSectionVars false

theorem one_own {w : World} {B e n : Nat} {u : Value} {xs : List Value} (h : w.ownsRow B e 1 u n xs) : u.oneCell' = true := by
  rcases h.2 with ⟨rfl, _⟩ | ⟨g, cap, cur, rfl, _⟩ <;> rfl
/-- an append of rows onto rows. -/
theorem rows_append {B B' : Nat} {X : Nat → Prop} {acc more : List (List UInt8)} {v u : Value} {w : World} (ty : TypeId) (h1 : Rows B X acc v w) (h2 : Rows B' X more u w) (hBB : B ≤ B') (hX : ∀ g, X g → g < w.heap.size) (hB : B ≤ w.heap.size) (hl : acc.length + more.length ≤ 1099511627776) :
    ∃ v' w', (Builtin.append_ #[22, 22] ty #[v, u]).run Tryd.prog w = .ok v' w' ∧ Rows B X (acc ++ more) v' w' ∧ w.grownBy w' v.ownBlock := by
  obtain ⟨i, hi, hz0, hz1, hz2⟩ := info_parts infoRow
  obtain ⟨vs, a1, ax, ae⟩ := h1
  obtain ⟨us, b1, bx, be⟩ := h2
  have hvl : vs.length = acc.length := by have := a1.1; omega
  have hul : us.length = more.length := by have := b1.1; omega
  have hone : ∀ x ∈ us, x.oneCell' = true := fun x hx => by
    obtain ⟨j, hj, rfl⟩ := List.getElem_of_mem hx
    obtain ⟨y, hy, h1c, -⟩ := be j more[j] (List.getElem?_eq_getElem (by omega))
    rw [List.getElem?_eq_getElem hj] at hy
    rw [Option.some.inj hy]
    exact h1c
  have key : ∀ v' w', w'.ownsRow B 27 1 v' (acc.length + more.length) (vs ++ us) → w.grownBy w' v.ownBlock → (v'.ownBlock = v.ownBlock ∨ ∀ g, v'.ownBlock = some g → w.heap.size ≤ g) → Rows B X (acc ++ more) v' w' := by
    intro v' w' ho hg hb
    refine ⟨vs ++ us, by rw [List.length_append]; exact ho, fun g hg' hx => ?_, fun k x hk => ?_⟩
    · rcases hb with h | h
      · exact ax g (by rw [← h]; exact hg') hx
      · have h3 := h g hg'
        have h4 := hX g hx
        omega
    · rcases Nat.lt_or_ge k acc.length with h | h
      · rw [List.getElem?_append_left h] at hk
        obtain ⟨y, hy, h1c, hoy, hxy⟩ := ae k x hk
        exact ⟨y, by rw [List.getElem?_append_left (by omega)]; exact hy, h1c, hoy.kept hg (rows_types hoy a1 (by decide)), hxy⟩
      · rw [List.getElem?_append_right h] at hk
        obtain ⟨y, hy, h1c, hoy, hxy⟩ := be _ x hk
        exact ⟨y, by rw [List.getElem?_append_right (by omega), hvl]; exact hy, h1c, (own_base hoy hBB).kept hg (rows_types hoy a1 (by decide)), hxy⟩
  rcases b1.2 with ⟨rfl, hm0⟩ | ⟨g, cap, cur, rfl, hbg, hgg, hnc, hcm, hcs, htake⟩
  · obtain rfl : more = [] := List.eq_nil_of_length_eq_zero hm0
    obtain rfl : us = [] := List.eq_nil_of_length_eq_zero hul
    exact ⟨v, w, run_append_owned_none (P := Tryd.prog) (w := w) B 22 ty 27 i 1 Tryd.underlying22 hi v acc.length vs a1, key v w (by rw [List.append_nil]; exact a1) ⟨rfl, rfl, rfl, Nat.le_refl _, fun _ _ _ => rfl⟩ (.inl rfl), ⟨rfl, rfl, rfl, Nat.le_refl _, fun _ _ _ => rfl⟩⟩
  · obtain ⟨v', w', hr, h2, h3, -, h5⟩ := run_append_own_at (P := Tryd.prog) w B 22 ty 27 i _ 1 24 Tryd.underlying22 hi hz0 hz1 hz2 rfl (by decide) v acc.length vs a1 ⟨g, 0, none⟩ more.length cap us (by omega) (b1.cells (g := g) rfl) hone (by unfold maxLen; omega) (by omega) hB
    exact ⟨v', w', hr, key v' w' h2 h3 (by
      rcases h5 with h | h
      · exact .inl h
      · refine .inr fun g' hg' => ?_
        rw [h] at hg'
        have := Option.some.inj hg'
        omega), h3⟩
/-- what a decoder tells of pieces. -/
def feeds : List UInt8 → Nat → List (List UInt8) → List (List UInt8) × List UInt8 × Nat
  | r, e, [] => ([], r, e)
  | r, e, b :: bs => ((stepF r e b).1 ++ (feeds (stepF r e b).2.1 (stepF r e b).2.2 bs).1, (feeds (stepF r e b).2.1 (stepF r e b).2.2 bs).2)
theorem feeds_snoc : ∀ (ls : List (List UInt8)) (r : List UInt8) (e : Nat) (b : List UInt8), feeds r e (ls ++ [b]) = ((feeds r e ls).1 ++ (stepF (feeds r e ls).2.1 (feeds r e ls).2.2 b).1, (stepF (feeds r e ls).2.1 (feeds r e ls).2.2 b).2)
  | [], r, e, b => by simp [feeds]
  | c :: ls, r, e, b => by
    show ((stepF r e c).1 ++ (feeds (stepF r e c).2.1 (stepF r e c).2.2 (ls ++ [b])).1, (feeds (stepF r e c).2.1 (stepF r e c).2.2 (ls ++ [b])).2) = _
    rw [feeds_snoc ls]
    simp only [feeds, List.append_assoc]
/-- all bytes of the pieces. -/
def joinL (ls : List (List UInt8)) : List UInt8 := ls.flatten
theorem feedL_rest : ∀ (k : Nat) (l : List UInt8), l.length ≤ k → (feedL l).2.1.length ≤ l.length ∧ (feedL l).1.length ≤ l.length := by
  intro k
  induction k with
  | zero =>
    intro l hl
    obtain rfl : l = [] := List.eq_nil_of_length_eq_zero (by omega)
    rw [feedL_nil]
    exact ⟨Nat.le_refl _, Nat.le_refl _⟩
  | succ k ih =>
    intro l hl
    obtain ⟨s, n, e, hm⟩ : ∃ s n e, measF l = (s, n, e) := ⟨_, _, _, rfl⟩
    by_cases he : e = 0
    · subst he
      by_cases hs : s = 0 ∨ l.length < s + n
      · rw [feedL_stop hm hs]
        exact ⟨Nat.le_refl _, Nat.zero_le _⟩
      · rw [feedL_step hm (by omega) (by omega)]
        have h := ih (l.drop (s + n)) (by rw [List.length_drop]; omega)
        rw [List.length_drop] at h
        simp only [List.length_cons]
        omega
    · rw [feedL_bad hm he]
      exact ⟨Nat.zero_le _, Nat.zero_le _⟩
theorem stepF_rest (r : List UInt8) (e : Nat) (b : List UInt8) : (stepF r e b).2.1.length ≤ r.length + b.length ∧ (stepF r e b).1.length ≤ r.length + b.length := by
  unfold stepF
  split
  · simp
  · have h := feedL_rest _ (r ++ b) (Nat.le_refl _)
    rw [List.length_append] at h
    exact h
/-- however a stream is cut, the same is told. -/
theorem feeds_join : ∀ (ls : List (List UInt8)), feeds [] 0 ls = feedL (joinL ls) := by
  have key : ∀ (ls : List (List UInt8)), ∀ (pre : List (List UInt8)), feeds [] 0 pre = feedL (joinL pre) → feeds [] 0 (pre ++ ls) = feedL (joinL (pre ++ ls)) := by
    intro ls
    induction ls with
    | nil => intro pre h; rw [List.append_nil]; exact h
    | cons b ls ih =>
      intro pre h
      have e : pre ++ b :: ls = (pre ++ [b]) ++ ls := by simp
      rw [e]
      refine ih _ ?_
      rw [feeds_snoc, h]
      have hj : joinL (pre ++ [b]) = joinL pre ++ b := by simp [joinL]
      rw [hj, feedL_app b _ (joinL pre) (Nat.le_refl _)]
      unfold fedB stepF
      by_cases h0 : (feedL (joinL pre)).2.2 ≠ 0
      · rw [if_pos h0, if_pos h0, (feedL_err _ (joinL pre) (Nat.le_refl _) h0).1]
        simp
      · rw [if_neg h0, if_neg h0]
  intro ls
  exact key ls [] feedL_nil.symm
theorem rows_feed {B D : Nat} {hv hv' v u : Value} {acc : List (List UInt8)} {p : List (List UInt8) × List UInt8 × Nat} {w w' : World} (h : Rows B (decX D hv) acc u w) (hq : FeedQ w B D hv p v hv' w') : Rows B (decX D hv') acc u w' := by
  obtain ⟨vs, h1, hx, h3⟩ := h
  have hk := hq.2.2.1
  have himp : ∀ g, g < w.heap.size → ¬ decX D hv g → ¬ decX D hv' g := fun g hg h h2 => by
    rcases h2 with h2 | h2
    · exact h (.inl h2)
    · exact h (.inr (hq.2.2.2.2 g hg h2))
  refine ⟨vs, own_same h1 (fun g hg => hk.2.2.2.2 g (h1.lt g hg).2 (hx g hg)), fun g hg => himp g (h1.lt g hg).2 (hx g hg), fun i x hi => ?_⟩
  obtain ⟨y, hy, h1c, ho, hxy⟩ := h3 i x hi
  exact ⟨y, hy, h1c, own_same ho (fun g hg => hk.2.2.2.2 g (ho.lt g hg).2 (hxy g hg)), fun g hg => himp g (ho.lt g hg).2 (hxy g hg)⟩
theorem rows_below {B : Nat} {X : Nat → Prop} {acc : List (List UInt8)} {v : Value} {w w' : World} (h : Rows B X acc v w) (hb : Below w.heap.size w w') : Rows B X acc v w' := h.below hb
theorem rows_start (w w1 : World) (D : Nat) (hD : D < w1.heap.size) (hw : w.heap.size ≤ w1.heap.size) : Rows w.heap.size (decX D (.slice none 0 0)) [] (.slice (some ⟨w1.heap.size, 0, none⟩) 0 0) (w1.alloc (.cells #[] 27)) := by
  refine ⟨[], World.ownsRow_lit (e := 27) (size := 1) w1 #[] 0 hw (by unfold maxLen; omega) rfl, fun g hg hx => ?_, fun i x h => by simp at h⟩
  simp only [Value.ownBlock, Option.some.injEq] at hg
  rcases hx with h | h
  · omega
  · simp [Value.ownBlock] at h
theorem rows_block {B : Nat} {X : Nat → Prop} {acc : List (List UInt8)} {v : Value} {w : World} (h : Rows B X acc v w) : (∀ g, v.ownBlock = some g → ¬ X g ∧ B ≤ g ∧ g < w.heap.size) ∧ ∃ A c, v = .slice A acc.length c := by
  obtain ⟨vs, h1, hx, -⟩ := h
  exact ⟨fun g hg => ⟨hx g hg, h1.lt g hg⟩, own_shape h1⟩
theorem join_take (ls : List (List UInt8)) (k : Nat) (x : List UInt8) (hx : ls[k]? = some x) : joinL (ls.take (k + 1)) = joinL (ls.take k) ++ x ∧ (joinL (ls.take k)).length + x.length ≤ (joinL ls).length := by
  have h1 : ls.take (k + 1) = ls.take k ++ [x] := by rw [List.take_add_one, hx]; rfl
  have h2 : joinL (ls.take (k + 1)) = joinL (ls.take k) ++ x := by rw [h1]; simp [joinL]
  refine ⟨h2, ?_⟩
  have h3 : joinL ls = joinL (ls.take (k + 1)) ++ joinL (ls.drop (k + 1)) := by
    unfold joinL
    rw [← List.flatten_append, List.take_append_drop]
  rw [h3, h2, List.length_append, List.length_append]
  omega
theorem feeds_len (ls : List (List UInt8)) {acc : List (List UInt8)} {r : List UInt8} {e : Nat} (h : feeds [] 0 ls = (acc, r, e)) : r.length ≤ (joinL ls).length ∧ acc.length ≤ (joinL ls).length := by
  rw [feeds_join] at h
  have h2 := feedL_rest _ (joinL ls) (Nat.le_refl _)
  rw [h] at h2
  exact h2
def AllPost (ls : List (List UInt8)) (w : World) (e : Ending) (w' : World) : Prop :=
  ∃ A c, e = .returned (.tuple #[.slice A (feedL (joinL ls)).1.length c, .int .i64 ((feedL (joinL ls)).2.2 : Nat), .int .i64 ((feedL (joinL ls)).2.1.length : Nat)]) ∧ ArgR w' (.slice A (feedL (joinL ls)).1.length c) (feedL (joinL ls)).1 ∧ Below w.heap.size w w'
set_option maxHeartbeats 2000000 in
theorem all_any (v : Value) (ls : List (List UInt8)) (w : World) (h : ArgR w v ls) (hT : (joinL ls).length ≤ 1000000) (hls : ls.length ≤ 1000000) (hM : MaxL w) :
    Calls Tryd.prog 23 #[v] w (AllPost ls w) := by
  obtain ⟨vs, ⟨hl1, A1, c1, rfl, hc1, h1⟩, -, he1⟩ := h
  have hML := maxL_lt hM
  obtain ⟨n, hn⟩ : ∃ n, n = ls.length := ⟨_, rfl⟩
  rw [← hn] at h1 hc1 hls ⊢
  have HN := Lib.hid hn
  have R1 := Lib.hid h1
  have E1 := Lib.hid he1
  have HM := Lib.hid hM
  clear hn h1 hl1 he1 hM
  go_enter Tryd.func23, Tryd.ntmps23
  go_wp2_with fail
  refine (new_dec w).mono ?_
  rintro e w1 ⟨rfl, hd1, hb1⟩
  have hw1 : w.heap.size ≤ w1.heap.size := hb1.out.size
  have HR1 := Lib.hid (rows_start w w1 w.heap.size (dec_lt hd1.out.2.1) hw1)
  have hb2 := (Below.refl w1.heap.size w1).alloc (Nat.le_refl _) (.cells #[] 27)
  have HB2 := Lib.hid (hb1.out.trans (hb2.mono hw1))
  have HD2 := Lib.hid (hd1.out.keep hb2)
  clear hb2 hd1 hb1
  go_wp2
  go_loopw [6, 7, 8] (fun u ev i wr => ∃ (k e' : Nat) (acc : List (List UInt8)) (r : List UInt8) (hv : Value), ev = .int .i64 e' ∧ i = .int .i64 k ∧ k ≤ n ∧ RowKit.Hid (Rows w.heap.size (decX w.heap.size hv) acc u wr) ∧ RowKit.Hid (Dec wr w.heap.size w.heap.size hv r e') ∧ RowKit.Hid (feeds [] 0 (ls.take k) = (acc, r, e')) ∧ RowKit.Hid (Below w.heap.size w wr)) (fun _ _ i _ => n - (RowKit.intOf i).toNat)
  case atStart => exact ⟨0, 0, [], [], _, rfl, rfl, Nat.zero_le _, HR1.out, HD2.out, rfl, HB2.out⟩
  case round =>
    obtain ⟨k, e', acc, r, hv, rfl, rfl, hk, HR, HD, HF, HB⟩ := hrel
    obtain ⟨hub, Au, cu, rfl⟩ := rows_block HR.out
    have HUB := Lib.hid hub
    clear hub
    by_cases hkn : k < n
    · obtain ⟨g1, o1, rfl, hg1, hr1⟩ := R1.out (by omega)
      obtain ⟨x, u0, hx, a0, hA0⟩ := ArgR.get (w := w) (c := c1) hr1 HN.out E1.out hkn
      have a1 := (HB.out.cell (p := ⟨g1, o1 + k, none⟩) hg1).trans a0
      have HA0 := Lib.hid (argB_below hA0 HB.out)
      obtain ⟨hj1, hj2⟩ := join_take ls k x hx
      have hfl := feeds_len _ HF.out
      have hsr := stepF_rest r e' x
      have HX := Lib.hid hx
      obtain ⟨bs6, r6, e6, h6⟩ : ∃ bs6 r6 e6, stepF r e' x = (bs6, r6, e6) := ⟨_, _, _, rfl⟩
      have HNX := Lib.hid (show feeds [] 0 (ls.take (k + 1)) = (acc ++ bs6, r6, e6) by
        rw [List.take_add_one, hx]
        show feeds [] 0 (ls.take k ++ [x]) = _
        rw [feeds_snoc, HF.out]
        dsimp only
        rw [h6])
      rw [h6] at hsr
      dsimp only at hsr
      have H6 := Lib.hid h6
      have hxl : x.length ≤ 1000000 := by omega
      have hrl : r.length + x.length ≤ 1000000 := by omega
      have hal : acc.length + bs6.length ≤ 2000000 := by omega
      clear a0 hA0 hx hr1 h6 hj1 hj2 hfl hsr
      go_wp2_with fail
      refine (copyBytes_any u0 x wr HA0.out (by omega)).mono ?_
      rintro e w5 ⟨v5, rfl, ho5, hb5⟩
      have HB5 := Lib.hid (HB.out.trans (hb5.mono HB.out.size))
      have HR5 := Lib.hid (rows_below HR.out hb5)
      have HF5 := feed_any w.heap.size w.heap.size hv v5 r x e' w5 (HD.out.keep hb5) HB5.out.size hML (own_argB ho5.out.2) (by omega) (maxL_below HM.out HB5.out hML)
      rw [H6.out] at HF5
      clear ho5 hb5
      go_wp2_with fail
      refine HF5.mono ?_
      rintro e w6 ⟨A6, c6, hv6, rfl, HQ6⟩
      have HB6 := Lib.hid (HB5.out.trans HQ6.out.2.2.2.1)
      have hap := rows_append 22 (rows_feed HR5.out HQ6.out) HQ6.out.2.1 HB5.out.size (fun g hg => by
        rcases hg with hg | hg
        · rw [hg]; exact dec_lt HQ6.out.1.2.1
        · exact (HQ6.out.1.2.2.lt g hg).2) HB6.out.size (by show acc.length + bs6.length ≤ _; omega)
      obtain ⟨v7, w7, hap, hr7, hg7⟩ := hap
      have HAP := Lib.hid hap
      have HR7 := Lib.hid hr7
      have hub6 := (rows_block (rows_feed HR5.out HQ6.out)).1
      have HD7 := Lib.hid (HQ6.out.1.kx (Kx.grown (X := fun g => (Value.slice Au acc.length cu).ownBlock = some g) hg7 (fun g h => h)) (fun g h h2 => (hub6 g h2).1 h))
      have HB7 := Lib.hid (HB6.out.grown hg7 HB6.out.size (fun g h => (hub6 g h).2.1))
      clear HF5 hap hr7 hg7 hub6
      go_wp2_with (at_builtin; refine wpList_append_run _ rfl _ _ 22 22 rfl _ _ rfl rfl v7 w7 HAP.out ?_)
      go_roundw
      case rel => exact ⟨k + 1, e6, acc ++ bs6, r6, hv6, rfl, by go_num, by omega, HR7.out, HD7.out, HNX.out, HB7.out⟩
      case measure => (simp [RowKit.intOf] <;> omega)
    · have hke : k = n := by omega
      subst hke
      have HF2 := Lib.hid (show feedL (joinL ls) = (acc, r, e') by
        have h := HF.out
        rw [List.take_of_length_le (by have := HN.out; omega), feeds_join] at h
        exact h)
      obtain ⟨A7, c7, hv7⟩ := HD.out.form
      subst hv7
      go_wp2_with fail
      refine (held_any wr _ _ _ _ _ HD.out.2.1).mono ?_
      rintro e w8 ⟨rfl, rfl⟩
      go_wp2
      go_ret3
      unfold AllPost
      rw [HF2.out]
      exact ⟨_, _, rfl, rows_argR HR.out, HB.out⟩
end Go.Proofs.YtphnplpgeoleeaaDoor
