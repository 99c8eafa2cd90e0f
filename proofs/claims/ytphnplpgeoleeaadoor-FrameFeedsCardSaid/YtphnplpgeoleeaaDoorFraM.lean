/- Messages as they are told: heads of lines, fronts. Plain maths. -/
import Derived.Test.YtphnplpgeoleeaaDoorFraP
import Derived.Test.YtphnplpgeoleeaaDoorFraQ
import Derived.Lib.IndexLaws
namespace Go.Proofs.YtphnplpgeoleeaaDoor
open Go.RowKit Go.Lib Go.Shelf
set_option maxRecDepth 100000
set_option linter.unusedVariables false
set_option linter.unusedSectionVars false

theorem occ_head {s sub' : List UInt8} {c : UInt8} {j : Nat} (h : Lib.occAt s (c :: sub') j = true) : s[j]? = some c := by
  unfold Lib.occAt at h
  rw [List.isPrefixOf_iff_prefix] at h
  obtain ⟨t, ht⟩ := h
  have h0 : (s.drop j)[0]? = some c := by rw [← ht]; rfl
  rwa [List.getElem?_drop, Nat.add_zero] at h0
theorem index_at {a sub' t : List UInt8} {c : UInt8} (ha : ∀ x ∈ a, x ≠ c) : Lib.index (a ++ (c :: sub') ++ t) (c :: sub') = a.length := by
  refine Lib.index_first (by simp) ?_ ?_
  · unfold Lib.occAt
    rw [List.append_assoc, List.drop_left, List.isPrefixOf_iff_prefix]
    exact List.prefix_append _ _
  · intro j hj
    cases h : Lib.occAt (a ++ (c :: sub') ++ t) (c :: sub') j
    · rfl
    · exfalso
      have h1 := occ_head h
      rw [List.append_assoc, List.getElem?_append_left hj] at h1
      exact ha c (List.mem_of_getElem? h1) rfl
theorem cut_at {a sub' t : List UInt8} {c : UInt8} (ha : ∀ x ∈ a, x ≠ c) : Lib.cut (a ++ (c :: sub') ++ t) (c :: sub') = (a, t, true) := by
  unfold Lib.cut
  rw [index_at ha, if_pos (by omega), Int.toNat_natCast, List.append_assoc, List.take_left]
  congr 2
  rw [← List.append_assoc, ← List.length_append, List.drop_left]
/-- a head of these lines. -/
def headOf : List (List UInt8) → List UInt8
  | [] => nl
  | x :: r => x ++ nl ++ headOf r
/-- lines that may stand in a head. -/
def okLines (ls : List (List UInt8)) : Prop := ∀ x ∈ ls, x ≠ [] ∧ ∀ c ∈ x, c ≠ 13
theorem head_long (ls : List (List UInt8)) : 2 * ls.length + 2 ≤ (headOf ls).length := by
  induction ls with
  | nil => exact Nat.le_refl _
  | cons x r ih =>
    simp only [headOf, List.length_append, List.length_cons]
    have : nl.length = 2 := rfl
    omega
theorem linesN_head : ∀ (ls : List (List UInt8)) (f : Nat), okLines ls → ls.length ≤ f → linesN f (headOf ls) = ls
  | [], 0, _, _ => rfl
  | [], f + 1, _, _ => by
    rw [linesN, if_pos (by decide +kernel)]
  | x :: r, 0, _, h => by simp at h
  | x :: r, f + 1, ho, h => by
    have hx := ho x List.mem_cons_self
    have hc : Lib.cut (headOf (x :: r)) nl = (x, headOf r, true) := cut_at (c := 13) (sub' := [10]) hx.2
    rw [linesN, hc, if_neg hx.1]
    dsimp only
    rw [linesN_head r f (fun y hy => ho y (List.mem_cons_of_mem _ hy)) (by simpa using h)]
theorem linesF_head {ls : List (List UInt8)} (ho : okLines ls) : linesF (headOf ls) = ls := linesN_head ls _ ho (by have := head_long ls; omega)
theorem index_head : ∀ (ls : List (List UInt8)) (t : List UInt8), okLines ls → ls ≠ [] → Lib.index (headOf ls ++ t) nl2 + 4 = (headOf ls).length
  | [], _, _, h => absurd rfl h
  | [x], t, ho, _ => by
    have hx := ho x List.mem_cons_self
    have e : headOf [x] ++ t = x ++ nl2 ++ t := by simp [headOf, nl, nl2]
    rw [e, show nl2 = 13 :: [10, 13, 10] from rfl, index_at hx.2]
    simp [headOf, nl]
  | x :: y :: r, t, ho, _ => by
    have hx := ho x List.mem_cons_self
    have hy := ho y (List.mem_cons_of_mem _ List.mem_cons_self)
    have ih := index_head (y :: r) t (fun z hz => ho z (List.mem_cons_of_mem _ hz)) (by simp)
    have e : headOf (x :: y :: r) ++ t = x ++ nl ++ (headOf (y :: r) ++ t) := by simp [headOf]
    obtain ⟨y0, ys, hys⟩ : ∃ y0 ys, y = y0 :: ys := by
      cases y with
      | nil => exact absurd rfl hy.1
      | cons y0 ys => exact ⟨y0, ys, rfl⟩
    have hy0 : y0 ≠ 13 := hy.2 y0 (by rw [hys]; exact List.mem_cons_self)
    have hfirst : (headOf (y :: r) ++ t)[0]? = some y0 := by rw [hys]; rfl
    have hno : Lib.NoOcc (x ++ nl ++ (headOf (y :: r) ++ t)) nl2 (x ++ nl).length := by
      intro j hj
      cases h : Lib.occAt (x ++ nl ++ (headOf (y :: r) ++ t)) nl2 j
      · rfl
      · exfalso
        have h1 := occ_head h
        rw [List.length_append] at hj
        have h2 : nl.length = 2 := rfl
        rw [List.append_assoc] at h1
        rcases Nat.lt_or_ge j x.length with hjx | hjx
        · rw [List.getElem?_append_left hjx] at h1
          exact hx.2 13 (List.mem_of_getElem? h1) rfl
        · rw [List.getElem?_append_right hjx] at h1
          rcases (by omega : j - x.length = 0 ∨ j - x.length = 1) with h3 | h3
          · unfold Lib.occAt at h
            have h4 : j = x.length := by omega
            rw [h4, List.append_assoc, List.drop_left, List.isPrefixOf_iff_prefix] at h
            obtain ⟨u, hu⟩ := h
            have h5 : (nl ++ (headOf (y :: r) ++ t))[2]? = some 13 := by rw [← hu]; rfl
            rw [List.getElem?_append_right (by decide)] at h5
            rw [show 2 - nl.length = 0 from rfl, hfirst] at h5
            exact hy0 (Option.some.inj h5)
          · rw [h3] at h1
            rw [List.getElem?_append_left (by decide)] at h1
            exact absurd h1 (by decide)
    have hd := Lib.index_drop hno (by simp)
    rw [List.drop_left] at hd
    have hge := Lib.index_ge (headOf (y :: r) ++ t) nl2
    have hln := head_long (y :: r)
    have hne : ¬ Lib.index (headOf (y :: r) ++ t) nl2 = -1 := by
      simp at hln
      omega
    rw [e, hd, if_neg (by simpa using hne)]
    have : (headOf (x :: y :: r)).length = (x ++ nl).length + (headOf (y :: r)).length := by
      rw [show headOf (x :: y :: r) = x ++ nl ++ headOf (y :: r) from rfl, List.length_append]
    rw [this]
    omega
theorem hendF_head {ls : List (List UInt8)} (t : List UInt8) (ho : okLines ls) (hne : ls ≠ []) : hendF (headOf ls ++ t) = (headOf ls).length := by
  have hi := index_head ls t ho hne
  have hp : Lib.hasPrefix (headOf ls ++ t) nl = false := by
    cases ls with
    | nil => exact absurd rfl hne
    | cons x r =>
      have hx := ho x List.mem_cons_self
      cases x with
      | nil => exact absurd rfl hx.1
      | cons x0 xs =>
        have h0 : x0 ≠ 13 := hx.2 x0 List.mem_cons_self
        show List.isPrefixOf nl (x0 :: _) = false
        simp [List.isPrefixOf, nl, Ne.symm h0]
  have hln := head_long ls
  have hl0 : 0 < ls.length := List.length_pos_iff.2 hne
  unfold hendF
  rw [hp, if_neg (by simp), if_pos (by omega)]
  omega
theorem measF_head {ls : List (List UInt8)} {n : Nat} (t : List UInt8) (ho : okLines ls) (hne : ls ≠ []) (hl : (headOf ls).length ≤ 1024) (hs : bodyF ls 0 0 = some (n, 1)) (hn : n ≤ 65536) : measF (headOf ls ++ t) = ((headOf ls).length, n, 0) := by
  have hln := head_long ls
  have ht : (headOf ls ++ t).take 1024 = headOf ls ++ t.take (1024 - (headOf ls).length) := by
    rw [List.take_append, List.take_of_length_le hl]
  have hz : sizeF (headOf ls) = some n := sizeF_some (by rw [linesF_head ho]; exact hs)
  unfold measF
  rw [ht, hendF_head _ ho hne, if_neg (by omega), List.take_left, hz]
  dsimp only
  rw [if_neg (by omega)]
theorem measF_front {ls : List (List UInt8)} (ho : okLines ls) (hne : ls ≠ []) (hl : (headOf ls).length ≤ 1024) (m : Nat) (hm : m < (headOf ls).length) : measF ((headOf ls).take m) = (0, 0, 0) := by
  have h0 : hendF ((headOf ls).take m) = 0 := by
    rcases Nat.eq_zero_or_pos (hendF ((headOf ls).take m)) with h | h
    · exact h
    · have h1 := hendF_app ((headOf ls).drop m) (l := (headOf ls).take m) (by omega)
      rw [List.take_append_drop] at h1
      have h2 := hendF_head [] ho hne
      rw [List.append_nil] at h2
      have h3 := hendF_le ((headOf ls).take m)
      rw [List.length_take] at h3
      omega
  have hlt : ((headOf ls).take m).length = m := by rw [List.length_take]; omega
  unfold measF
  rw [List.take_of_length_le (by omega), if_pos h0, if_neg (by omega)]
/-- a head of these lines and a body. -/
theorem feedL_msg {ls : List (List UInt8)} {l : List UInt8} (t : List UInt8) (ho : okLines ls) (hne : ls ≠ []) (hl : (headOf ls).length ≤ 1024) (hs : bodyF ls 0 0 = some (l.length, 1)) (hn : l.length ≤ 65536) :
    feedL (headOf ls ++ l ++ t) = (l :: (feedL t).1, (feedL t).2) := by
  have hm := measF_head (l ++ t) ho hne hl hs hn
  rw [← List.append_assoc] at hm
  have hln := head_long ls
  rw [feedL_step hm (by omega) (by simp only [List.length_append]; omega)]
  have h1 : (headOf ls ++ l ++ t).drop (headOf ls).length = l ++ t := by rw [List.append_assoc, List.drop_left]
  have h2 : (headOf ls ++ l ++ t).drop ((headOf ls).length + l.length) = t := by rw [← List.length_append, List.drop_left]
  rw [h1, h2, List.take_left]
theorem feedL_front {ls : List (List UInt8)} {l : List UInt8} (ho : okLines ls) (hne : ls ≠ []) (hl : (headOf ls).length ≤ 1024) (hs : bodyF ls 0 0 = some (l.length, 1)) (hn : l.length ≤ 65536) (m : Nat) (hm : m < (headOf ls ++ l).length) :
    feedL ((headOf ls ++ l).take m) = ([], (headOf ls ++ l).take m, 0) := by
  rw [List.length_append] at hm
  rcases Nat.lt_or_ge m (headOf ls).length with h | h
  · rw [List.take_append_of_le_length (by omega)]
    exact feedL_stop (measF_front ho hne hl m h) (.inl rfl)
  · have e : (headOf ls ++ l).take m = headOf ls ++ l.take (m - (headOf ls).length) := by rw [List.take_append, List.take_of_length_le h]
    rw [e]
    refine feedL_stop (measF_head _ ho hne hl hs hn) (.inr ?_)
    rw [List.length_append, List.length_take]
    omega
end Go.Proofs.YtphnplpgeoleeaaDoor
