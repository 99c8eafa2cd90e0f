/- The reference's at and head. -/
import Derived.Test.YtphnplpgeoleeaaDoorFraPie
namespace Go.Proofs.YtphnplpgeoleeaaDoor
open Go.RowKit Go.Lib Go.Shelf
set_option maxRecDepth 100000
set_option linter.unusedVariables false
set_option linter.unusedSectionVars false

theorem occ_short {l sub : List UInt8} {i : Nat} (h : l.length < i + sub.length) (h0 : sub ≠ []) : Lib.occAt l sub i = false := by
  cases hc : Lib.occAt l sub i
  · rfl
  · exfalso
    unfold Lib.occAt at hc
    rw [List.isPrefixOf_iff_prefix] at hc
    have h2 := hc.length_le
    rw [List.length_drop] at h2
    have : 0 < sub.length := List.length_pos_iff.2 h0
    omega
theorem occ_take {l sub : List UInt8} {i : Nat} : Lib.occAt l sub i = decide ((l.drop i).take sub.length = sub) := by
  unfold Lib.occAt
  cases h : sub.isPrefixOf (l.drop i)
  · symm
    rw [decide_eq_false_iff_not]
    intro h2
    have h3 : sub <+: l.drop i := by
      rw [← h2]
      exact List.take_prefix _ _
    rw [← List.isPrefixOf_iff_prefix, h] at h3
    cases h3
  · symm
    rw [decide_eq_true_eq]
    rw [List.isPrefixOf_iff_prefix] at h
    exact (List.prefix_iff_eq_take.1 h).symm
def AtP (b : Bool) (w : World) (e : Ending) (w' : World) : Prop := e = .returned (.bool b) ∧ w = w'
set_option maxHeartbeats 1000000 in
theorem at_any (v : Value) (l : List UInt8) (i : Nat) (s : ByteArray) (w : World) (h : ArgB w v l) (hi : i ≤ l.length) (hs0 : 0 < s.size) (hs : s.size ≤ 1000) (hl : l.length ≤ 1099511627776) :
    Calls Tryd.prog 32 #[v, .int .i64 (i : Nat), .string s] w (AtP (Lib.occAt l s.data.toList i) w) := by
  obtain ⟨A, c, rfl, hc⟩ := h.shape
  have hsl : s.data.toList.length = s.size := by simp
  by_cases hfit : i + s.size ≤ l.length
  · have hg : decide ((i : Int) + s.size ≤ (l.length : Int)) = true := decide_eq_true (by omega)
    cases A with
    | none =>
      exfalso
      rcases h.2 with h2 | ⟨a, k, h2⟩
      · simp only [Value.slice.injEq] at h2
        omega
      · simp at h2
    | some ad =>
    have hd := (h.drop i (by omega) (by omega)).take s.size (by omega)
    have hdl : ((l.drop i).take s.size).length = s.size := by rw [List.length_take, List.length_drop]; omega
    have hcv : (convert 27 9 (.slice (some (ad.add i)) s.size (c - i))).run Tryd.prog w = .ok (.string (bs ((l.drop i).take s.size))) w := by
      have h2 := conv_rd hd.1 27 9 5 Tryd.underlying27 Tryd.underlying5 Tryd.underlying9
      exact h2
    have hne : ¬ c = i := by omega
    have hsub : i + s.size - i = s.size := by omega
    have HR := Lib.hid (show Lib.occAt l s.data.toList i = ((bs ((l.drop i).take s.size)).toList == s.toList) by
      rw [occ_take, hsl, Lib.toList_data, Lib.toList_data, bs_list, Bool.eq_iff_iff]
      simp)
    clear hd h
    go_enter Tryd.func32, Tryd.ntmps32
    go_wp2
    go_ret
    exact ⟨by rw [HR.out]; rfl, by first | rfl | trivial⟩
  · have hg : decide ((i : Int) + s.size ≤ (l.length : Int)) = false := decide_eq_false (by omega)
    have HR := Lib.hid (show Lib.occAt l s.data.toList i = false from occ_short (by rw [hsl]; omega) (fun h => by rw [h] at hsl; simp at hsl; omega))
    clear h hfit
    go_enter Tryd.func32, Tryd.ntmps32
    go_wp2
    go_ret
    exact ⟨by rw [HR.out]; rfl, by first | rfl | trivial⟩
/-- what the reference's head answers. -/
def headR (l : List UInt8) : Int := if 0 < hendF l ∧ hendF l ≤ 1024 then hendF l else if 1024 ≤ l.length then -1 else 0
theorem hendF_take (l : List UInt8) (m : Nat) : hendF (l.take m) = if hendF l ≤ m then hendF l else 0 := by
  have hle := hendF_le (l.take m)
  rw [List.length_take] at hle
  by_cases h : hendF (l.take m) = 0
  · rw [h]
    symm
    split
    · rename_i h2
      rcases Nat.eq_zero_or_pos (hendF l) with h3 | h3
      · exact h3
      · exfalso
        unfold hendF at h h3 h2
        cases hp : Lib.hasPrefix (l.take m) nl
        · rw [hp, if_neg (by simp)] at h
          cases hp2 : Lib.hasPrefix l nl
          · rw [hp2, if_neg (by simp)] at h2 h3
            by_cases hi : 0 ≤ Lib.index l nl2
            · rw [if_pos hi] at h2 h3
              rcases Lib.index_spec l nl2 with ⟨h4, _⟩ | ⟨k, h4, h5, h6, h7⟩
              · omega
              · rw [h4] at h2
                have hk4 : k + 4 ≤ m := by simpa using h2
                have hroom := Lib.index_room l nl2 hi
                have h44 : nl2.length = 4 := rfl
                have h8 : Lib.occAt (l.take m) nl2 k = true := by
                  rw [occ_take, decide_eq_true_eq] at h6 ⊢
                  rw [List.drop_take, List.take_take, Nat.min_eq_left (by omega)]
                  exact h6
                have h9 : Lib.index (l.take m) nl2 ≠ -1 := by
                  intro h10
                  rcases Lib.index_spec (l.take m) nl2 with ⟨_, h11⟩ | ⟨j, h11, _⟩
                  · rw [h11 k (by rw [List.length_take]; omega)] at h8
                    cases h8
                  · omega
                have h10 := Lib.index_ge (l.take m) nl2
                rw [if_pos (by omega)] at h
                omega
            · rw [if_neg hi] at h3
              omega
          · rw [hp2, if_pos rfl] at h2
            unfold Lib.hasPrefix at hp hp2
            have h4 : nl.isPrefixOf (l.take m) = true := by
              rw [List.isPrefixOf_iff_prefix] at hp2 ⊢
              obtain ⟨t, ht⟩ := hp2
              rw [← ht, List.take_append, List.take_of_length_le (show nl.length ≤ m from h2)]
              exact ⟨_, rfl⟩
            rw [hp] at h4
            cases h4
        · rw [hp, if_pos rfl] at h
          omega
    · rfl
  · have h2 := hendF_app (l.drop m) h
    rw [List.take_append_drop] at h2
    rw [h2, if_pos (by omega)]
theorem headR_meas (l : List UInt8) : (headR l = -1 ∧ measF l = (0, 0, 30)) ∨ (headR l = 0 ∧ measF l = (0, 0, 0)) ∨ (∃ n : Nat, headR l = n ∧ 0 < n ∧ n ≤ 1024 ∧ n ≤ l.length ∧ hendF (l.take n) = n ∧ measF l = match sizeF (l.take n) with | none => (0, 0, 30) | some k => if 65536 < k then (0, 0, 31) else (n, k, 0)) := by
  have ht := hendF_take l 1024
  have hle := hendF_le (l.take 1024)
  rw [List.length_take] at hle
  unfold headR measF
  by_cases h : 0 < hendF l ∧ hendF l ≤ 1024
  · rw [if_pos h.2] at ht
    rw [if_pos h, ht]
    have h3 : hendF (l.take (hendF l)) = hendF l := by rw [hendF_take, if_pos (Nat.le_refl _)]
    refine .inr (.inr ⟨hendF l, rfl, h.1, h.2, by omega, h3, ?_⟩)
    rw [if_neg (by omega)]
    cases sizeF (l.take (hendF l)) <;> rfl
  · have h0 : hendF (l.take 1024) = 0 := by
      rw [ht]
      split
      · omega
      · rfl
    rw [if_neg h, h0, if_pos rfl]
    by_cases hl : 1024 ≤ l.length
    · rw [if_pos hl, if_pos hl]
      exact .inl ⟨rfl, rfl⟩
    · rw [if_neg hl, if_neg hl]
      exact .inr (.inl ⟨rfl, rfl⟩)
/-- what the search for a head's end knows. -/
def HeadI (l : List UInt8) (k m : Nat) : Prop := (m = 0 ∧ Lib.hasPrefix l nl = false ∧ ∀ j, j < k → Lib.occAt l nl2 j = false) ∨ (0 < m ∧ m = hendF l)
theorem headI_done {l : List UInt8} {k m : Nat} (h : HeadI l k m) (hk : m = 0 → l.length ≤ k) : m = hendF l := by
  rcases h with ⟨rfl, h1, h2⟩ | ⟨_, h⟩
  · have h3 : Lib.index l nl2 = -1 := Lib.index_none (fun j hj => by
      rcases Nat.lt_or_ge j k with h | h
      · exact h2 j h
      · exact occ_short (by have := hk rfl; have : nl2.length = 4 := rfl; omega) (by decide))
    unfold hendF
    rw [h1, h3]
    rfl
  · exact h
theorem headI_hit {l : List UInt8} {k : Nat} (h : HeadI l k 0) (hk : k ≤ l.length) (ho : Lib.occAt l nl2 k = true) : HeadI l (k + 1) (k + 4) := by
  rcases h with ⟨_, h1, h2⟩ | ⟨h0, _⟩
  · have h3 : Lib.index l nl2 = k := Lib.index_first hk ho h2
    refine .inr ⟨by omega, ?_⟩
    unfold hendF
    rw [h1, h3]
    simp
  · omega
theorem headI_miss {l : List UInt8} {k : Nat} (h : HeadI l k 0) (ho : Lib.occAt l nl2 k = false) : HeadI l (k + 1) 0 := by
  rcases h with ⟨_, h1, h2⟩ | ⟨h0, _⟩
  · exact .inl ⟨rfl, h1, fun j hj => by
      rcases Nat.lt_or_ge j k with h | h
      · exact h2 j h
      · have : j = k := by omega
        subst this
        exact ho⟩
  · omega
def HeadP (l : List UInt8) (w : World) (e : Ending) (w' : World) : Prop := e = .returned (.int .i64 (headR l)) ∧ w = w'
set_option maxHeartbeats 1000000 in
theorem head_any (v : Value) (l : List UInt8) (w : World) (h : ArgB w v l) (hl : l.length ≤ 1099511627776) : Calls Tryd.prog 27 #[v] w (HeadP l w) := by
  have HA := Lib.hid h
  obtain ⟨A, c, rfl, hc⟩ := h.shape
  obtain ⟨n, hn⟩ : ∃ n, n = l.length := ⟨_, rfl⟩
  rw [← hn] at HA hc hl ⊢
  have HN := Lib.hid hn
  have HAT := Lib.hid (fun (i : Nat) (hi : i ≤ n) => show Calls Tryd.prog 32 #[.slice A n c, .int .i64 (i : Nat), .string ⟨#[13, 10, 13, 10]⟩] w (AtP (Lib.occAt l nl2 i) w) from at_any (.slice A n c) l i ⟨#[13, 10, 13, 10]⟩ w HA.out (by rw [← hn]; exact hi) (by decide) (by decide) (by rw [← hn]; exact hl))
  have HAT0 := Lib.hid (show Calls Tryd.prog 32 #[.slice A n c, .int .i64 (0 : Nat), .string ⟨#[13, 10]⟩] w (AtP (Lib.hasPrefix l nl) w) from at_any (.slice A n c) l 0 ⟨#[13, 10]⟩ w HA.out (by omega) (by decide) (by decide) (by rw [← hn]; exact hl))
  have HR0 := Lib.hid (show headR l = if 0 < hendF l ∧ hendF l ≤ 1024 then (hendF l : Int) else if 1024 ≤ n then -1 else 0 by rw [hn]; rfl)
  clear h hn
  go_enter Tryd.func27, Tryd.ntmps27
  go_wp2_with fail
  refine HAT0.out.mono ?_
  rintro e w1 ⟨rfl, rfl⟩
  have HS := Lib.hid (show HeadI l 0 (if Lib.hasPrefix l nl = true then 2 else 0) by
    split
    · rename_i hp
      refine .inr ⟨by decide, ?_⟩
      unfold hendF
      rw [if_pos hp]
    · rename_i hp
      exact .inl ⟨rfl, by simpa using hp, fun j hj => by omega⟩)
  cases hp : Lib.hasPrefix l nl
  all_goals
    rw [hp] at HS
    have HS := Lib.hid (show HeadI l 0 _ from HS.out)
    clear hp
    go_wp2
    go_loopw [3, 4] (fun nv iv wr => ∃ k m : Nat, nv = .int .i64 m ∧ iv = .int .i64 k ∧ k ≤ n ∧ m ≤ n + 4 ∧ RowKit.Hid (HeadI l k m) ∧ wr = w) (fun _ iv _ => n - (RowKit.intOf iv).toNat)
    case atStart => first | exact ⟨0, 0, rfl, rfl, by omega, by omega, HS.out, rfl⟩ | exact ⟨0, 2, rfl, rfl, by omega, by omega, HS.out, rfl⟩
    case round =>
      obtain ⟨k, m, rfl, rfl, hk, hm, HI, rfl⟩ := hrel
      by_cases hgo : m = 0 ∧ k < n
      · obtain ⟨rfl, hkn⟩ := hgo
        go_wp2_with fail
        refine (HAT.out k hk).mono ?_
        rintro e w2 ⟨rfl, rfl⟩
        cases ho : Lib.occAt l nl2 k
        · have HX := Lib.hid (headI_miss HI.out ho)
          clear ho
          go_wp2
          exact ⟨⟨k + 1, 0, rfl, by go_num, by omega, by omega, HX.out, trivial⟩, by simp [RowKit.intOf] <;> omega⟩
        · have HX := Lib.hid (headI_hit HI.out (by have := HN.out; omega) ho)
          clear ho
          go_wp2
          exact ⟨⟨k + 1, k + 4, by go_num, by go_num, by omega, by omega, HX.out, trivial⟩, by simp [RowKit.intOf] <;> omega⟩
      · have hmh := headI_done HI.out (by have := HN.out; omega)
        have HR := Lib.hid (show headR l = if 0 < m ∧ m ≤ 1024 then (m : Int) else if 1024 ≤ n then -1 else 0 by rw [HR0.out, hmh])
        clear hmh
        by_cases hm0 : m = 0
        · subst hm0
          have hkn : ¬ k < n := by omega
          clear hgo
          by_cases hbig : 1024 ≤ n
          · have HR2 := Lib.hid (show headR l = -1 by rw [HR.out, if_neg (by omega), if_pos hbig])
            go_wp2
            go_ret
            exact ⟨by rw [HR2.out]; rfl, by first | rfl | trivial⟩
          · have HR2 := Lib.hid (show headR l = 0 by rw [HR.out, if_neg (by omega), if_neg hbig])
            go_wp2
            go_ret
            exact ⟨by rw [HR2.out]; rfl, by first | rfl | trivial⟩
        · have hmz : ((m : Int) == 0) = false := beq_eq_false_iff_ne.2 (by omega)
          have hmp : 0 < m := by omega
          clear hm0 hgo
          by_cases hle : m ≤ 1024
          · have HR2 := Lib.hid (show headR l = m by rw [HR.out, if_pos ⟨hmp, hle⟩])
            go_wp2
            go_ret
            exact ⟨by rw [HR2.out]; rfl, by first | rfl | trivial⟩
          · by_cases hbig : 1024 ≤ n
            · have HR2 := Lib.hid (show headR l = -1 by rw [HR.out, if_neg (by omega), if_pos hbig])
              go_wp2
              go_ret
              exact ⟨by rw [HR2.out]; rfl, by first | rfl | trivial⟩
            · have HR2 := Lib.hid (show headR l = 0 by rw [HR.out, if_neg (by omega), if_neg hbig])
              go_wp2
              go_ret
              exact ⟨by rw [HR2.out]; rfl, by first | rfl | trivial⟩
end Go.Proofs.YtphnplpgeoleeaaDoor
