/- frame's Feed: the walk. -/
import Derived.Test.YtphnplpgeoleeaaDoorFraJ
namespace Go.Proofs.YtphnplpgeoleeaaDoor
open Go.RowKit Go.Lib Go.Shelf
set_option maxRecDepth 100000
set_option linter.unusedVariables false
set_option linter.unusedSectionVars false

/-- what has turned lies in X. -/
def Kx (X : Nat → Prop) (w w' : World) : Prop := w'.os = w.os ∧ w'.tape = w.tape ∧ w'.output = w.output ∧ w.heap.size ≤ w'.heap.size ∧ ∀ g, g < w.heap.size → ¬ X g → w'.heap[g]? = w.heap[g]?
theorem Kx.of_below {X : Nat → Prop} {w w' : World} (h : Below w.heap.size w w') : Kx X w w' := ⟨h.os, h.tape, h.output, h.size, fun g hg _ => h.block g hg⟩
theorem Kx.trans {X Y : Nat → Prop} {a b c : World} (h : Kx X a b) (k : Kx Y b c) (hY : ∀ g, g < a.heap.size → Y g → X g) : Kx X a c :=
  ⟨k.1.trans h.1, k.2.1.trans h.2.1, k.2.2.1.trans h.2.2.1, Nat.le_trans h.2.2.2.1 k.2.2.2.1, fun g hg hx => (k.2.2.2.2 g (Nat.lt_of_lt_of_le hg h.2.2.2.1) (fun hy => hx (hY g hg hy))).trans (h.2.2.2.2 g hg hx)⟩
theorem Kx.grown {X : Nat → Prop} {w w' : World} {row : Option Nat} (hg : w.grownBy w' row) (hr : ∀ k, row = some k → X k) : Kx X w w' :=
  ⟨hg.os, hg.tape, hg.output, hg.size, fun g hlt hx => hg.block g hlt (fun e => hx (hr g e.symm))⟩
theorem Kx.below {X : Nat → Prop} {B : Nat} {w w' : World} (h : Kx X w w') (hB : B ≤ w.heap.size) (hX : ∀ g, X g → B ≤ g) : Below B w w' :=
  ⟨h.1, h.2.1, h.2.2.1, h.2.2.2.1, fun g hg => h.2.2.2.2 g (Nat.lt_of_lt_of_le hg hB) (fun hx => by have := hX g hx; omega)⟩
theorem Kx.set {X : Nat → Prop} {w w' : World} (h : Kx X w w') (a : Addr) (ha : X a.block) (u : Value) : Kx X w (w'.setCell a u) :=
  h.trans (Kx.grown (X := X) (grownBy_set w' a u) (fun k e => by cases e; exact ha)) (fun _ _ h => h)
/-- the blocks of a decoder. -/
def decX (D : Nat) (hv : Value) (g : Nat) : Prop := g = D ∨ hv.ownBlock = some g
/-- what Feed answers, and leaves. -/
def FeedPost (D B : Nat) (hv : Value) (L : List UInt8) (w : World) (e : Ending) (w' : World) : Prop :=
  ∃ v' hv', e = .returned (.tuple #[v', .int .i64 ((feedL L).2.2 : Nat)]) ∧ DecAt w' D hv' ((feedL L).2.2 : Nat) ∧ w'.ownsRow B 5 1 hv' (feedL L).2.1.length (bytesV (feedL L).2.1) ∧
    Rows w.heap.size (decX D hv') (feedL L).1 v' w' ∧ Kx (decX D hv) w w' ∧ ∀ g, g < w.heap.size → hv'.ownBlock = some g → hv.ownBlock = some g
theorem feed_post {D B : Nat} {hv hv' bv : Value} {L r : List UInt8} {acc : List (List UInt8)} {e : Nat} {w W1 wr w' : World} (hf : feedL L = (acc, r, e)) (hk : Kx (decX D hv) w W1) (hD : D < W1.heap.size) (hR : Rows W1.heap.size noX acc bv wr)
    (hB : Below W1.heap.size W1 wr) (hk2 : Kx (· = D) wr w') (hdec : DecAt w' D hv' (e : Nat)) (hown : w'.ownsRow B 5 1 hv' r.length (bytesV r)) (hnew : ∀ g, hv'.ownBlock = some g → g < W1.heap.size ∨ wr.heap.size ≤ g)
    (hold : ∀ g, g < w.heap.size → hv'.ownBlock = some g → hv.ownBlock = some g) : FeedPost D B hv L w (.returned (.tuple #[bv, .int .i64 (e : Nat)])) w' := by
  refine ⟨bv, hv', by rw [hf], by rw [hf]; exact hdec, by rw [hf]; exact hown, ?_, (hk.trans (Kx.of_below (X := decX D hv) hB) (fun _ _ h => h)).trans hk2 (fun g _ h => .inl h), hold⟩
  rw [hf]
  have h1 := hR.other (Y := decX D hv') (fun g h1 h2 h3 => by
    rcases h3 with rfl | h3
    · omega
    · rcases hnew g h3 with h | h <;> omega)
  exact (h1.same (fun g hg hx => hk2.2.2.2.2 g hg (fun h => hx (.inl h)))).base (by have := hk.2.2.2.1; omega)
theorem rows_open {B : Nat} {acc : List (List UInt8)} {v : Value} {w : World} (h : Rows B noX acc v w) : ∃ vs, w.ownsRow B 27 1 v acc.length vs ∧ ∀ (i : Nat) x, acc[i]? = some x → ∃ u, vs[i]? = some u ∧ u.oneCell' = true ∧ w.ownsRow B 5 1 u x.length (bytesV x) := by
  obtain ⟨vs, h1, -, h3⟩ := h
  refine ⟨vs, h1, fun i x hi => ?_⟩
  obtain ⟨u, hu, h1c, ho, -⟩ := h3 i x hi
  exact ⟨u, hu, h1c, ho⟩
theorem own_base {w : World} {B B' e size n : Nat} {v : Value} {xs : List Value} (h : w.ownsRow B e size v n xs) (hb : B' ≤ B) : w.ownsRow B' e size v n xs := by
  refine ⟨h.1, ?_⟩
  rcases h.2 with hn | ⟨g, cap, cur, rfl, hg, rest⟩
  · exact .inl hn
  · exact .inr ⟨g, cap, cur, rfl, by omega, rest⟩
theorem DecAt.keep {w w' : World} {D : Nat} {hv : Value} {e : Int} (hd : DecAt w D hv e) (hb : Below w.heap.size w w') : DecAt w' D hv e := (hb.block D (Array.getElem?_eq_some_iff.1 hd).1).trans hd
theorem dec_lt {w : World} {D : Nat} {hv : Value} {e : Int} (hd : DecAt w D hv e) : D < w.heap.size := (Array.getElem?_eq_some_iff.1 hd).1
theorem own_keep {w w' : World} {B e size n : Nat} {v : Value} {xs : List Value} (h : w.ownsRow B e size v n xs) (hb : Below w.heap.size w w') : w'.ownsRow B e size v n xs := own_same h (fun g hg => hb.block g (h.lt g hg).2)
theorem feedF_off {f : Nat} {L : List UInt8} {k : Nat} {acc : List (List UInt8)} (hF : feedL L = (acc ++ (feedF f (L.drop k)).1, (feedF f (L.drop k)).2)) {s n : Nat} (hm : measF (L.drop k) = (s, n, 0)) (hs : s = 0 ∨ L.length - k < s + n) : feedL L = (acc, L.drop k, 0) := by
  rw [hF, feedF_stop hm (by rw [List.length_drop]; exact hs), List.append_nil]
theorem feedL_next {f k : Nat} {L : List UInt8} {acc : List (List UInt8)} (hF : feedL L = (acc ++ (feedF f (L.drop k)).1, (feedF f (L.drop k)).2)) {s n : Nat} (hm : measF (L.drop k) = (s, n, 0)) (hs : s ≠ 0) (hf : k + (s + n) ≤ L.length) (hff : L.length - k ≤ f) :
    feedL L = ((acc ++ [(L.drop (k + s)).take n]) ++ (feedF (f - 1) (L.drop (k + (s + n)))).1, (feedF (f - 1) (L.drop (k + (s + n)))).2) := by
  obtain ⟨g, rfl⟩ : ∃ g, f = g + 1 := ⟨f - 1, by omega⟩
  rw [hF, feedF_step hm hs (by rw [List.length_drop]; omega), List.drop_drop, List.drop_drop, Nat.add_sub_cancel]
  simp
set_option maxHeartbeats 4000000 in
theorem feed_live (D B : Nat) (hv u : Value) (l b : List UInt8) (w : World) (hd : DecAt w D hv 0) (ho : w.ownsRow B 5 1 hv l.length (bytesV l)) (hB : B ≤ w.heap.size) (hB0 : 0 < B) (hBD : B ≤ D) (hu : ArgB w u b) (L : List UInt8) (hL : L = l ++ b) (hl : l.length + b.length < 4294967281) (hM : MaxL w) :
    Calls Tryd.prog 14 #[.pointer (some ⟨D, 0, none⟩), u] w (FeedPost D B hv L w) := by
  obtain ⟨i0, hi, hz0, hz1, hz2⟩ := info_parts infoByte
  obtain ⟨i2, hi2, hy0, hy1, hy2⟩ := info_parts infoRow
  obtain ⟨h0, h1, z0, z1⟩ := hd.cells
  have HD := Lib.hid hd
  have HO := Lib.hid ho
  have HM := Lib.hid hM
  have HLL := Lib.hid hL
  clear hd ho hM hL
  go_enter Tryd.func14, Tryd.ntmps14
  go_wp2_with (at_builtin; refine wpList_append_argB rfl _ _ 27 rfl B 5 i0 _ Tryd.underlying27 hi hz0 hz1 hz2 rfl hv l rfl HO.out _ b rfl hu (by omega) hB ?_; intro v1 w1 hown1 hgrow1 hwh1; have HWH := Lib.hid hwh1; clear hwh1; obtain ⟨A1, c1, rfl, hc1⟩ := (own_argB hown1).shape; have HO1 := Lib.hid hown1; have HG1 := Lib.hid hgrow1; have HD1 := Lib.hid (HD.out.kept hgrow1 (dec_apart HD.out HO.out)); obtain ⟨k0, k1, kz0, kz1⟩ := HD1.out.cells; clear hown1 hgrow1)
  have hL := HLL.out
  have hN : l.length + b.length = L.length := by rw [hL, List.length_append]
  rw [hN]
  rw [← hL] at HO1 hc1
  obtain ⟨W1, hW1⟩ : ∃ W1, W1 = w1.setCell ⟨D, 0, none⟩ (.slice A1 L.length c1) := ⟨_, rfl⟩
  have HDW := Lib.hid (show DecAt W1 D (.slice A1 L.length c1) 0 by rw [hW1]; exact HD1.out.setH _)
  have HOW := Lib.hid (show W1.ownsRow B 5 1 (.slice A1 L.length c1) L.length (bytesV L) by
    rw [hW1]
    exact HO1.out.kept (grownBy_set w1 ⟨D, 0, none⟩ _) (.inr fun e => dec_apart HD1.out HO1.out e.symm))
  have HBW := Lib.hid (show Below B w W1 by
    rw [hW1]
    exact ((Below.refl B w).grown HG1.out hB (fun k e => (HO.out.lt k e).1)).setCell (p := ⟨D, 0, none⟩) hBD _)
  have HKW := Lib.hid (show Kx (decX D hv) w W1 by
    rw [hW1]
    exact (Kx.grown (X := decX D hv) HG1.out (fun k e => .inr e)).set ⟨D, 0, none⟩ (.inl rfl) _)
  have HMW := Lib.hid (maxL_below HM.out HBW.out hB0)
  have HOLD := Lib.hid (show ∀ g, g < w.heap.size → (Value.slice A1 L.length c1).ownBlock = some g → hv.ownBlock = some g by
    intro g hg he
    rw [hL] at he
    rcases HWH.out with h | h
    · exact h.symm.trans he
    · have := h g he
      omega)
  rw [← hW1]
  have hln : L.length < 4294967281 := by omega
  clear hW1 k0 k1 kz0 kz1 hL hN h0 h1 z0 z1 HWH HG1 HD1 HO1
  obtain ⟨N, hNN⟩ : ∃ N, N = L.length := ⟨_, rfl⟩
  rw [← hNN] at HDW HOW hc1 hln HOLD ⊢
  have HNN := Lib.hid hNN
  have HAW := Lib.hid (show ArgB W1 (.slice A1 N c1) L by have h := own_argB (l := L) (by rw [← hNN]; exact HOW.out); exact h)
  have HDL := Lib.hid (dec_lt HDW.out)
  clear hNN
  go_loopw [6, 7] (fun bv at' wr => ∃ (k f : Nat) (acc : List (List UInt8)), at' = .int .i64 k ∧ k ≤ N ∧ N - k ≤ f ∧ RowKit.Hid (Rows W1.heap.size noX acc bv wr) ∧ RowKit.Hid (Below W1.heap.size W1 wr) ∧ RowKit.Hid (feedL L = (acc ++ (feedF f (L.drop k)).1, (feedF f (L.drop k)).2)) ∧ acc.length ≤ k) (fun _ i _ => N - (RowKit.intOf i).toNat)
  case atStart => exact ⟨0, N, [], rfl, by omega, by omega, ⟨[], World.ownsRow_nil _ _ _ _, fun _ _ => id, fun i x h => by simp at h⟩, Below.refl _ _, by rw [HNN.out]; rfl, by simp⟩
  case round =>
    obtain ⟨k, f, acc, rfl, hk, hkf, HR, HB, HF, hacc⟩ := hrel
    have HDR := Lib.hid (show DecAt wr D (.slice A1 N c1) 0 from (HB.out.block D (Array.getElem?_eq_some_iff.1 HDW.out).1).trans HDW.out)
    obtain ⟨h0, h1, z0, z1⟩ := HDR.out.cells
    have hkc : k ≤ c1 := by omega
    have HME : RowKit.Hid (∀ v, ArgB wr v (L.drop k) → Calls Tryd.prog 25 #[v] wr fun e w' => e = .returned (.tuple #[.int .i64 ((measF (L.drop k)).1 : Nat), .int .i64 ((measF (L.drop k)).2.1 : Nat), .int .i64 ((measF (L.drop k)).2.2 : Nat)]) ∧ Below wr.heap.size wr w') := fun v hv =>
      measure_any v (L.drop k) wr hv (by have := HNN.out; rw [List.length_drop]; omega) (maxL_below HMW.out HB.out (maxL_lt HMW.out))
    have hml := measF_le (L.drop k)
    obtain ⟨ms, mn, me, hme⟩ : ∃ ms mn me, measF (L.drop k) = (ms, mn, me) := ⟨_, _, _, rfl⟩
    rw [hme] at HME hml
    rw [List.length_drop, ← HNN.out] at hml
    dsimp only at HME hml
    obtain ⟨hm1, hm2, hm3⟩ := hml
    have HE := Lib.hid hme
    clear hme
    cases A1 with
    | none =>
      obtain ⟨rfl, rfl⟩ : N = 0 ∧ c1 = 0 := by
        rcases HAW.out.2 with h | ⟨a, c, h⟩
        · simp only [Value.slice.injEq] at h
          exact ⟨h.2.1, h.2.2⟩
        · simp at h
      have hk0 : k = 0 := by omega
      subst hk0
      have hLn : L = [] := List.eq_nil_of_length_eq_zero HNN.out.symm
      have hL0 : L.drop 0 = [] := hLn
      obtain ⟨rfl, rfl, rfl⟩ : ms = 0 ∧ mn = 0 ∧ me = 0 := by
        have h : measF (L.drop 0) = (ms, mn, me) := HE.out
        rw [hL0] at h
        have h2 : measF [] = (0, 0, 0) := by decide +kernel
        rw [h2] at h
        simp only [Prod.mk.injEq] at h
        exact ⟨h.1.symm, h.2.1.symm, h.2.2.symm⟩
      have HM2 := Lib.hid (HME.out (.slice none 0 0) ⟨by rw [hL0]; exact Rd.nil _ _ _ _ _, .inl rfl⟩)
      have HFL := Lib.hid (feedF_off HF.out HE.out (.inl rfl))
      clear hLn hL0
      go_wp2_with fail
      refine HM2.out.mono ?_
      rintro e w2 ⟨rfl, hb2⟩
      have HB2 := Lib.hid hb2
      have HD2 := Lib.hid (HDR.out.keep hb2)
      obtain ⟨k0, k1, kz0, kz1⟩ := HD2.out.cells
      clear hb2
      go_wp2
      go_ret2
      exact feed_post HFL.out HKW.out HDL.out HR.out HB.out (Kx.of_below HB2.out) HD2.out (by rw [List.drop_zero, ← HNN.out]; exact own_keep (own_keep HOW.out HB.out) HB2.out) (fun g hg => .inl ((HOW.out.lt g hg).2)) HOLD.out
    | some ad =>
      have HAR := Lib.hid (argB_below HAW.out HB.out)
      by_cases hkl : k < c1
      · have HAK := Lib.hid (HAR.out.drop k hk hkl)
        have HM2 := Lib.hid (HME.out _ HAK.out)
        have hne : ¬ c1 = k := by omega
        by_cases hez : me = 0
        · subst hez
          by_cases hms : ms = 0
          · subst hms
            have HFL := Lib.hid (feedF_off HF.out HE.out (.inl rfl))
            go_wp2_with fail
            refine HM2.out.mono ?_
            rintro e w2 ⟨rfl, hb2⟩
            have HB2 := Lib.hid hb2
            have HD2 := Lib.hid (HDR.out.keep hb2)
            obtain ⟨k0, k1, kz0, kz1⟩ := HD2.out.cells
            clear hb2
            have HCL := Lib.hid (clone_any _ (L.drop k) w2 (argB_below HAK.out HB2.out) (by have := HNN.out; rw [List.length_drop]; omega))
            go_wp2_with fail
            · refine HCL.out.mono ?_
              rintro e w3 ⟨v3, rfl, hown3, hb3⟩
              obtain ⟨A3, M3, c3, rfl⟩ : ∃ A M c, v3 = Value.slice A M c := by
                obtain ⟨A, c, h, _⟩ := (own_argB hown3.out).shape
                exact ⟨A, _, c, h⟩
              have HB3 := Lib.hid hb3
              have HD3 := Lib.hid (HD2.out.keep hb3)
              obtain ⟨m0, m1, mz0, mz1⟩ := HD3.out.cells
              clear hb3
              go_wp2
              go_ret2
              exact feed_post HFL.out HKW.out HDL.out HR.out HB.out (((Kx.of_below HB2.out).trans (Kx.of_below (X := (· = D)) HB3.out) (fun _ _ h => h)).set (X := (· = D)) ⟨D, 0, none⟩ rfl _) (HD3.out.setH _) (((own_base (B' := B) hown3.out (by have := HB2.out.size; have := HB.out.size; have := HBW.out.size; omega)).kept (grownBy_set w3 ⟨D, 0, none⟩ _) (.inr fun e => dec_apart HD3.out hown3.out e.symm))) (fun g hg => .inr (by have := (hown3.out.lt g hg).1; have := HB2.out.size; omega)) (fun g hg he => absurd (hown3.out.lt g he).1 (by have := HB2.out.size; have := HB.out.size; have := HBW.out.size; omega))
            · obtain rfl : 0 = k := by omega
              go_ret2
              exact feed_post HFL.out HKW.out HDL.out HR.out HB.out (Kx.of_below HB2.out) HD2.out (by rw [List.drop_zero, ← HNN.out]; exact own_keep (own_keep HOW.out HB.out) HB2.out) (fun g hg => .inl ((HOW.out.lt g hg).2)) HOLD.out
          · by_cases hfit : N - k < ms + mn
            ·
              have HFL := Lib.hid (feedF_off HF.out HE.out (.inr (by rw [← HNN.out]; exact hfit)))
              have hmsb : ((ms : Int) == 0) = false := beq_eq_false_iff_ne.2 (by omega)
              have hgt : decide ((N : Int) - k - ms < (mn : Int)) = true := decide_eq_true (by omega)
              clear hms
              go_wp2_with fail
              refine HM2.out.mono ?_
              rintro e w2 ⟨rfl, hb2⟩
              have HB2 := Lib.hid hb2
              have HD2 := Lib.hid (HDR.out.keep hb2)
              obtain ⟨k0, k1, kz0, kz1⟩ := HD2.out.cells
              clear hb2
              have HCL := Lib.hid (clone_any _ (L.drop k) w2 (argB_below HAK.out HB2.out) (by have := HNN.out; rw [List.length_drop]; omega))
              go_wp2_with fail
              · refine HCL.out.mono ?_
                rintro e w3 ⟨v3, rfl, hown3, hb3⟩
                obtain ⟨A3, M3, c3, rfl⟩ : ∃ A M c, v3 = Value.slice A M c := by
                  obtain ⟨A, c, h, _⟩ := (own_argB hown3.out).shape
                  exact ⟨A, _, c, h⟩
                have HB3 := Lib.hid hb3
                have HD3 := Lib.hid (HD2.out.keep hb3)
                obtain ⟨m0, m1, mz0, mz1⟩ := HD3.out.cells
                clear hb3
                go_wp2
                go_ret2
                exact feed_post HFL.out HKW.out HDL.out HR.out HB.out (((Kx.of_below HB2.out).trans (Kx.of_below (X := (· = D)) HB3.out) (fun _ _ h => h)).set (X := (· = D)) ⟨D, 0, none⟩ rfl _) (HD3.out.setH _) (((own_base (B' := B) hown3.out (by have := HB2.out.size; have := HB.out.size; have := HBW.out.size; omega)).kept (grownBy_set w3 ⟨D, 0, none⟩ _) (.inr fun e => dec_apart HD3.out hown3.out e.symm))) (fun g hg => .inr (by have := (hown3.out.lt g hg).1; have := HB2.out.size; omega)) (fun g hg he => absurd (hown3.out.lt g he).1 (by have := HB2.out.size; have := HB.out.size; have := HBW.out.size; omega))
              · obtain rfl : 0 = k := by omega
                go_ret2
                exact feed_post HFL.out HKW.out HDL.out HR.out HB.out (Kx.of_below HB2.out) HD2.out (by rw [List.drop_zero, ← HNN.out]; exact own_keep (own_keep HOW.out HB.out) HB2.out) (fun g hg => .inl ((HOW.out.lt g hg).2)) HOLD.out
            ·
              have hmsb : ((ms : Int) == 0) = false := beq_eq_false_iff_ne.2 (by omega)
              have hgt : decide ((N : Int) - k - ms < (mn : Int)) = false := decide_eq_false (by omega)
              have hfit2 : k + (ms + mn) ≤ N := by omega
              have hms0 : 0 < ms := by omega
              have HST := Lib.hid (feedL_next HF.out HE.out (by omega) (by rw [← HNN.out]; omega) (by rw [← HNN.out]; omega))
              clear hms hfit
              go_wp2_with fail
              refine HM2.out.mono ?_
              rintro e w2 ⟨rfl, hb2⟩
              have HB2 := Lib.hid hb2
              have HD2 := Lib.hid (HDR.out.keep hb2)
              obtain ⟨k0, k1, kz0, kz1⟩ := HD2.out.cells
              clear hb2
              have HBL := Lib.hid (show ((L.drop (k + ms)).take mn).length = mn by have := HNN.out; rw [List.length_take, List.length_drop]; omega)
              have HAP := Lib.hid (show ArgB w2 (if c1 = k + (ms + mn) - mn then .slice (some ad) (k + (ms + mn) - (k + (ms + mn) - mn)) 0 else .slice (some (ad.add (k + (ms + mn) - mn))) (k + (ms + mn) - (k + (ms + mn) - mn)) (c1 - (k + (ms + mn) - mn))) ((L.drop (k + ms)).take mn) by
                have e1 : k + (ms + mn) - mn = k + ms := by omega
                have e2 : k + (ms + mn) - (k + ms) = mn := by omega
                rw [e1, e2]
                split
                · have hmn : mn = 0 := by omega
                  subst hmn
                  rw [List.take_zero]
                  exact ArgB.empty _ _ _
                · exact ((argB_below HAR.out HB2.out).drop (k + ms) (by omega) (by omega)).take mn (by omega))
              have HCL := Lib.hid (clone_any _ _ w2 HAP.out (by rw [HBL.out]; omega))
              obtain ⟨vs, hvs, hel⟩ := rows_open HR.out
              have HVS := Lib.hid (own_keep hvs HB2.out)
              have HEL := Lib.hid (fun (i : Nat) x (hi : acc[i]? = some x) => show ∃ u, vs[i]? = some u ∧ u.oneCell' = true ∧ w2.ownsRow W1.heap.size 5 1 u x.length (bytesV x) by obtain ⟨u, h1, h2, h3⟩ := hel i x hi; exact ⟨u, h1, h2, own_keep h3 HB2.out⟩)
              have hw2 : W1.heap.size ≤ w2.heap.size := by have := HB.out.size; have := HB2.out.size; omega
              clear hvs hel
              go_wp2_with fail
              · rename_i h
                subst h
                have HC2 := HCL.out
                rw [if_pos rfl] at HC2
                refine HC2.mono ?_
                rintro e w3 ⟨v3, rfl, hown3, hb3⟩
                obtain ⟨A3, M3, c3, rfl⟩ : ∃ A M c, v3 = Value.slice A M c := by
                  obtain ⟨A, c, h, _⟩ := (own_argB hown3.out).shape
                  exact ⟨A, _, c, h⟩
                have HB3 := Lib.hid hb3
                have HU3 := Lib.hid (own_base hown3.out hw2)
                have HV3 := Lib.hid (own_keep HVS.out hb3)
                have HE3 := Lib.hid (fun (i : Nat) x (hi : acc[i]? = some x) => show ∃ u, vs[i]? = some u ∧ u.oneCell' = true ∧ w3.ownsRow W1.heap.size 5 1 u x.length (bytesV x) by obtain ⟨u, h1, h2, h3⟩ := HEL.out i x hi; exact ⟨u, h1, h2, own_keep h3 hb3⟩)
                have hw3 : W1.heap.size ≤ w3.heap.size := by have := hb3.size; omega
                have HBB := Lib.hid ((HB.out.trans (HB2.out.mono HB.out.size)).trans (hb3.mono hw2))
                clear hb3
                go_wp2_with (at_builtin; refine wpList_append_own _ rfl _ _ 22 rfl W1.heap.size 27 i2 _ 1 24 Tryd.underlying22 hi2 hy0 hy1 hy2 rfl (by decide) u6 acc.length vs rfl (HV3.out.alloc _) ⟨w3.heap.size, 0, none⟩ 1 1 [.slice A3 M3 c3] rfl rfl (cell_one_new _ _ _) (by intro u hu; simp only [List.mem_singleton] at hu; subst hu; rfl) (by unfold maxLen; omega) (by omega) (by simp; omega) ?_; intro v4 w4 hown4 hgrow4 hnil4; have HNX := Lib.hid (rows_next HBB.out hw3 HV3.out HE3.out HU3.out hown4 hgrow4); clear hown4 hgrow4 hnil4)
                go_roundw
                case rel => exact ⟨k + (ms + mn), f - 1, acc ++ [(L.drop (k + ms)).take mn], by go_num, by omega, by omega, HNX.out.1, HNX.out.2, HST.out, by rw [List.length_append]; simp; omega⟩
                case measure => (simp [RowKit.intOf] <;> omega)
              · rename_i h
                have HC2 := HCL.out
                rw [if_neg h] at HC2
                refine HC2.mono ?_
                rintro e w3 ⟨v3, rfl, hown3, hb3⟩
                obtain ⟨A3, M3, c3, rfl⟩ : ∃ A M c, v3 = Value.slice A M c := by
                  obtain ⟨A, c, h, _⟩ := (own_argB hown3.out).shape
                  exact ⟨A, _, c, h⟩
                have HB3 := Lib.hid hb3
                have HU3 := Lib.hid (own_base hown3.out hw2)
                have HV3 := Lib.hid (own_keep HVS.out hb3)
                have HE3 := Lib.hid (fun (i : Nat) x (hi : acc[i]? = some x) => show ∃ u, vs[i]? = some u ∧ u.oneCell' = true ∧ w3.ownsRow W1.heap.size 5 1 u x.length (bytesV x) by obtain ⟨u, h1, h2, h3⟩ := HEL.out i x hi; exact ⟨u, h1, h2, own_keep h3 hb3⟩)
                have hw3 : W1.heap.size ≤ w3.heap.size := by have := hb3.size; omega
                have HBB := Lib.hid ((HB.out.trans (HB2.out.mono HB.out.size)).trans (hb3.mono hw2))
                clear hb3
                go_wp2_with (at_builtin; refine wpList_append_own _ rfl _ _ 22 rfl W1.heap.size 27 i2 _ 1 24 Tryd.underlying22 hi2 hy0 hy1 hy2 rfl (by decide) u6 acc.length vs rfl (HV3.out.alloc _) ⟨w3.heap.size, 0, none⟩ 1 1 [.slice A3 M3 c3] rfl rfl (cell_one_new _ _ _) (by intro u hu; simp only [List.mem_singleton] at hu; subst hu; rfl) (by unfold maxLen; omega) (by omega) (by simp; omega) ?_; intro v4 w4 hown4 hgrow4 hnil4; have HNX := Lib.hid (rows_next HBB.out hw3 HV3.out HE3.out HU3.out hown4 hgrow4); clear hown4 hgrow4 hnil4)
                go_roundw
                case rel => exact ⟨k + (ms + mn), f - 1, acc ++ [(L.drop (k + ms)).take mn], by go_num, by omega, by omega, HNX.out.1, HNX.out.2, HST.out, by rw [List.length_append]; simp; omega⟩
                case measure => (simp [RowKit.intOf] <;> omega)
        ·
          have hez2 : ((me : Int) != 0) = true := by rw [bne_iff_ne]; omega
          have HFL := Lib.hid (show feedL L = (acc, [], me) by
            rw [HF.out, feedF_bad HE.out hez (by rw [List.length_drop, ← HNN.out]; exact hkf), List.append_nil])
          clear hez
          go_wp2_with fail
          refine HM2.out.mono ?_
          rintro e w2 ⟨rfl, hb2⟩
          have HB2 := Lib.hid hb2
          have HD2 := Lib.hid (HDR.out.keep hb2)
          obtain ⟨k0, k1, kz0, kz1⟩ := HD2.out.cells
          clear hb2
          obtain ⟨j0, j1, jz0, jz1⟩ := (HD2.out.setE (me : Nat)).cells
          go_wp2
          go_ret2
          exact feed_post HFL.out HKW.out HDL.out HR.out HB.out (((Kx.of_below HB2.out).set (X := (· = D)) ⟨D, 1, none⟩ rfl _).set (X := (· = D)) ⟨D, 0, none⟩ rfl _) ((HD2.out.setE _).setH _) (World.ownsRow_nil _ _ _ _) (fun g hg => by simp [Value.ownBlock] at hg) (fun g _ hg => by simp [Value.ownBlock] at hg)
      ·
        obtain rfl : k = c1 := by omega
        obtain rfl : k = N := by omega
        have hL0 : L.drop k = [] := List.drop_eq_nil_of_le (by have := HNN.out; omega)
        obtain ⟨rfl, rfl, rfl⟩ : ms = 0 ∧ mn = 0 ∧ me = 0 := by
          have h : measF (L.drop k) = (ms, mn, me) := HE.out
          rw [hL0] at h
          have h2 : measF [] = (0, 0, 0) := by decide +kernel
          rw [h2] at h
          simp only [Prod.mk.injEq] at h
          exact ⟨h.1.symm, h.2.1.symm, h.2.2.symm⟩
        have HAK := Lib.hid (show ArgB wr (.slice (some ad) 0 0) (L.drop k) by rw [hL0]; exact ArgB.empty _ _ _)
        have HM2 := Lib.hid (HME.out _ HAK.out)
        have HFL := Lib.hid (feedF_off HF.out HE.out (.inl rfl))
        clear hL0
        go_wp2_with fail
        refine HM2.out.mono ?_
        rintro e w2 ⟨rfl, hb2⟩
        have HB2 := Lib.hid hb2
        have HD2 := Lib.hid (HDR.out.keep hb2)
        obtain ⟨k0, k1, kz0, kz1⟩ := HD2.out.cells
        clear hb2
        have HCL := Lib.hid (clone_any _ (L.drop k) w2 (argB_below HAK.out HB2.out) (by have := HNN.out; rw [List.length_drop]; omega))
        go_wp2_with fail
        · refine HCL.out.mono ?_
          rintro e w3 ⟨v3, rfl, hown3, hb3⟩
          obtain ⟨A3, M3, c3, rfl⟩ : ∃ A M c, v3 = Value.slice A M c := by
            obtain ⟨A, c, h, _⟩ := (own_argB hown3.out).shape
            exact ⟨A, _, c, h⟩
          have HB3 := Lib.hid hb3
          have HD3 := Lib.hid (HD2.out.keep hb3)
          obtain ⟨m0, m1, mz0, mz1⟩ := HD3.out.cells
          clear hb3
          go_wp2
          go_ret2
          exact feed_post HFL.out HKW.out HDL.out HR.out HB.out (((Kx.of_below HB2.out).trans (Kx.of_below (X := (· = D)) HB3.out) (fun _ _ h => h)).set (X := (· = D)) ⟨D, 0, none⟩ rfl _) (HD3.out.setH _) (((own_base (B' := B) hown3.out (by have := HB2.out.size; have := HB.out.size; have := HBW.out.size; omega)).kept (grownBy_set w3 ⟨D, 0, none⟩ _) (.inr fun e => dec_apart HD3.out hown3.out e.symm))) (fun g hg => .inr (by have := (hown3.out.lt g hg).1; have := HB2.out.size; omega)) (fun g hg he => absurd (hown3.out.lt g he).1 (by have := HB2.out.size; have := HB.out.size; have := HBW.out.size; omega))
        · obtain rfl : 0 = k := by omega
          go_ret2
          exact feed_post HFL.out HKW.out HDL.out HR.out HB.out (Kx.of_below HB2.out) HD2.out (by rw [List.drop_zero, ← HNN.out]; exact own_keep (own_keep HOW.out HB.out) HB2.out) (fun g hg => .inl ((HOW.out.lt g hg).2)) HOLD.out
end Go.Proofs.YtphnplpgeoleeaaDoor
