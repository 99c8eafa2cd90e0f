/- The walk of UtfJoins. -/
import Derived.Test.YtdeihlbnlogjcaaDoorUtfS
import Derived.Test.YtdeihlbnlogjcaaDoorUtfP
namespace Go.Proofs.YtdeihlbnlogjcaaDoor
open Go.RowKit Go.Lib Go.Shelf
set_option maxRecDepth 100000
set_option linter.unusedVariables false

theorem join_len : ∀ (n : Nat) (us rs : List Int), us.length ≤ n → Ut.joinF us = some rs → rs.length ≤ us.length
  | _, [], rs, _, h => by
    simp only [Ut.joinF, Option.some.injEq] at h
    subst h
    simp
  | _, [u], rs, _, h => by
    rw [Ut.joinF] at h
    split at h
    · simp only [Option.some.injEq] at h
      subst h
      simp
    · cases h
  | 0, _ :: _ :: _, _, h, _ => by simp at h
  | n + 1, u :: v :: t, rs, hl, h => by
    rw [Ut.joinF] at h
    split at h
    · simp only [Option.map_eq_some_iff] at h
      obtain ⟨ys, hy, rfl⟩ := h
      have := join_len n t ys (by simp at hl; omega) hy
      simp
      omega
    · split at h
      · simp only [Option.map_eq_some_iff] at h
        obtain ⟨ys, hy, rfl⟩ := h
        have := join_len n (v :: t) ys (by simp at hl ⊢; omega) hy
        simp at this ⊢
        omega
      · cases h
def txX (l : List Int) : ByteArray := if l.all Ut.isR = true then ⟨⟨Ut.encs l⟩⟩ else ⟨#[]⟩
def txK (l : List Int) : Int := if l.all Ut.isR = true then 0 else 40
def jnL (l : List Int) : List Int := (Ut.joinF l).getD []
def jnK (l : List Int) : Int := match Ut.joinF l with | some _ => 0 | none => 40
theorem TextPost.one {l : List Int} {w w' : World} {e : Ending} (h : TextPost l w e w') : e = .returned (.tuple #[.string (txX l), .int .i64 (txK l)]) ∧ Below w.heap.size w w' := by
  refine ⟨?_, h.2⟩
  have h := h.1
  unfold txX txK
  split at h
  · rename_i ha
    rw [h, if_pos ha, if_pos ha]
  · rename_i ha
    rw [h, if_neg ha, if_neg ha]
theorem JoinPost.one {l : List Int} {w w' : World} {e : Ending} (h : JoinPost l w e w') : ∃ v, e = .returned (.tuple #[v, .int .i64 (jnK l)]) ∧ RowKit.Hid (Rd w' w'.heap.size 1 v (jnL l).length (intsV (jnL l))) ∧ Below w.heap.size w w' := by
  have hb := h.2
  have h := h.1
  unfold jnK jnL
  cases hj : Ut.joinF l with
  | none =>
    rw [hj] at h
    exact ⟨_, h, Rd.nil _ _ _ _ _, hb⟩
  | some rs =>
    rw [hj] at h
    obtain ⟨v, he, hi⟩ := h
    exact ⟨v, he, hi.rd, hb⟩
theorem jn_len (l : List Int) : (jnL l).length ≤ l.length := by
  unfold jnL
  cases hj : Ut.joinF l with
  | none => simp
  | some rs => exact join_len _ _ _ (Nat.le_refl _) hj
set_option maxHeartbeats 1500000 in
theorem utfJoins_walk (v : Value) (l : List Int) (w : World) (hv : ArgI w v l) (hT : Tabs w) : Calls Tryd.prog 4 #[v] w (TruePost w) := by
  obtain ⟨A, c, rfl, hc⟩ : ∃ A c, v = .slice A l.length c ∧ l.length ≤ c := by
    obtain ⟨⟨-, A, c, e, hc, -⟩, -⟩ := hv
    exact ⟨A, c, e, hc⟩
  obtain ⟨n, hn⟩ : ∃ n, n = l.length := ⟨_, rfl⟩
  have HN := Lib.hid hn
  have HV := Lib.hid hv
  rw [← hn] at hc ⊢
  clear hn hv
  go_enter Tryd.func4, Tryd.ntmps4
  go_wp2_with fail
  refine (alive_any w hT).mono ?_
  rintro e w1 ⟨rfl, hb1⟩
  have HB1 := Lib.hid hb1
  have hs1 := hb1.size
  have HV1 := Lib.hid (show ArgI w1 _ l from ⟨(HV.out.1.below hb1).more hb1.size, HV.out.2⟩)
  clear hb1
  by_cases hlen : n > 5000
  · have h2 : (n : Int) > 5000 := by omega
    go_wp2
    go_ret
    exact ⟨rfl, HB1.out⟩
  · have h2 : ¬ (n : Int) > 5000 := by omega
    go_wp2_with fail
    refine (copyInts_any _ l w1 (HN.out ▸ HV1.out) (by have := HN.out; omega)).mono ?_
    rintro e w2 ⟨v2, rfl, ho, hb2⟩
    have HO2 := Lib.hid (Rd.of_own ho.out.2)
    have HB2 := Lib.hid (HB1.out.trans (hb2.mono hs1))
    have hs2 := hb2.size
    clear hb2 ho
    go_wp2_with fail
    refine (text_any v2 l w2 _ (Nat.le_refl _) HO2.out (by have := HN.out; omega)).mono ?_
    rintro e w3 h
    obtain ⟨rfl, hb3⟩ := h.one
    have HB3 := Lib.hid (HB2.out.trans (hb3.mono (by omega)))
    have HO3 := Lib.hid (HO2.out.below hb3)
    have hs3 := hb3.size
    have HV3 := Lib.hid ((HV.out.1.below HB3.out).more HB3.out.size)
    clear hb3 h
    go_wp2_with fail
    refine (rtext_any (.slice A n c) l w3 _ (Nat.le_refl _) (HN.out ▸ HV3.out) (by have := HN.out; omega)).mono ?_
    rintro e w4 h
    obtain ⟨rfl, hb4⟩ := h.one
    have HB4 := Lib.hid (HB3.out.trans (hb4.mono (by omega)))
    have HO4 := Lib.hid (HO3.out.below (hb4.mono hs3))
    have hs4 := hb4.size
    clear hb4 h
    go_wp2_with fail
    refine (join_any v2 l w4 w2.heap.size (by omega) HO4.out (by have := HN.out; omega)).mono ?_
    rintro e w5 h
    obtain ⟨v5, rfl, hr5, hb5⟩ := h.one
    have HB5 := Lib.hid (HB4.out.trans (hb5.mono (by omega)))
    have HO5 := Lib.hid (HO4.out.below (hb5.mono (by omega)))
    have hs5 := hb5.size
    have HV5 := Lib.hid ((HV.out.1.below HB5.out).more HB5.out.size)
    clear hb5 h
    go_wp2_with fail
    refine (rjoin_any (.slice A n c) l w5 _ (Nat.le_refl _) (HN.out ▸ HV5.out) (by have := HN.out; omega)).mono ?_
    rintro e w6 h
    obtain ⟨v6, rfl, hr6, hb6⟩ := h.one
    have HB6 := Lib.hid (HB5.out.trans (hb6.mono (by omega)))
    have HO6 := Lib.hid (HO5.out.below (hb6.mono (by omega)))
    have HR6 := Lib.hid (hr5.out.below hb6)
    have HV6 := Lib.hid ((HV.out.1.below HB6.out).more HB6.out.size)
    clear hb6 h
    have hjl := jn_len l
    have HS1 := Lib.hid (sameInts_yes v5 v6 (jnL l) w6 _ _ HR6.out hr6.out (by have := HN.out; omega))
    have HS2 := Lib.hid (fun q : Nat => sameInts_yes v2 _ l (w6.drewN q) _ _ (HO6.out.drewN q) (HV6.out.drewN q) (by have := HN.out; omega))
    rw [← HN.out] at HS2
    obtain ⟨X, hX⟩ : ∃ X, X = txX l := ⟨_, rfl⟩
    obtain ⟨K, hK⟩ : ∃ X, X = txK l := ⟨_, rfl⟩
    obtain ⟨M, hM⟩ : ∃ X, X = jnK l := ⟨_, rfl⟩
    rw [← hX, ← hK, ← hM]
    clear hX hK hM hjl
    go_wp2_with (first | (go_at_call 26; with_reducible (refine HS1.out.mono ?_); rintro e w7 ⟨rfl, q1, rfl⟩) | (go_at_call 26; with_reducible (refine (HS2.out q1).mono ?_); rintro e w8 ⟨rfl, q2, rfl⟩))
    go_ret
    exact ⟨rfl, below_drewN HB6.out _⟩
end Go.Proofs.YtdeihlbnlogjcaaDoor
