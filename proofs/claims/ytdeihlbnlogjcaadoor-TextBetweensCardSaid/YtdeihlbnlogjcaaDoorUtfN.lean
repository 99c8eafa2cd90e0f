/- Units and places: plain mathematics. -/
import Derived.Test.YtdeihlbnlogjcaaDoorUtfM
namespace Go.Proofs.YtdeihlbnlogjcaaDoor.Ut
open Go.Lib
set_option linter.unusedVariables false

def unitsR (r : Int) : List Int := if r < 65536 then [r] else [55296 + (r - 65536) / 1024, 56320 + (r - 65536) % 1024]
def unitsF (rs : List Int) : List Int := rs.flatMap unitsR
def widthR (r : Int) : Int := if r < 65536 then 1 else 2
theorem unitsR_len (r : Int) : ((unitsR r).length : Int) = widthR r := by unfold unitsR widthR; split <;> rfl
theorem units_nil : unitsF [] = [] := rfl
theorem units_cons (r : Int) (rs : List Int) : unitsF (r :: rs) = unitsR r ++ unitsF rs := rfl
theorem units_app (a b : List Int) : unitsF (a ++ b) = unitsF a ++ unitsF b := by simp [unitsF]
def isHi (u : Int) : Bool := decide (55296 ≤ u ∧ u < 56320)
def isLo (u : Int) : Bool := decide (56320 ≤ u ∧ u < 57344)
def pairR (u v : Int) : Int := 65536 + (u - 55296) * 1024 + (v - 56320)
/-- the runes of units; none: they are none's. -/
def joinF : List Int → Option (List Int)
  | [] => some []
  | [u] => if u < 65536 ∧ isR u = true then some [u] else none
  | u :: v :: t => if isHi u = true ∧ isLo v = true then (joinF t).map (pairR u v :: ·) else if u < 65536 ∧ isR u = true then (joinF (v :: t)).map (u :: ·) else none
theorem isR_not_hi {r : Int} (h : isR r = true) : isHi r = false := by
  simp only [isR, isHi, decide_eq_true_eq, decide_eq_false_iff_not] at h ⊢
  omega
theorem join_units : ∀ (rs : List Int), (∀ r ∈ rs, isR r = true) → joinF (unitsF rs) = some rs
  | [], _ => rfl
  | r :: rs, h => by
    have hr := h r (List.mem_cons_self ..)
    have ih := join_units rs fun u hu => h u (List.mem_cons_of_mem _ hu)
    rw [units_cons]
    by_cases hw : r < 65536
    · rw [unitsR, if_pos hw, List.singleton_append]
      cases hu : unitsF rs with
      | nil =>
        rw [hu] at ih
        simp only [joinF, Option.some.injEq] at ih
        rw [joinF, if_pos ⟨hw, hr⟩, ← ih]
      | cons v t =>
        rw [hu] at ih
        rw [joinF, if_neg (by rw [isR_not_hi hr]; simp), if_pos ⟨hw, hr⟩, ih]
        rfl
    · rw [unitsR, if_neg hw]
      simp only [isR, decide_eq_true_eq] at hr
      rw [List.cons_append, List.cons_append, List.nil_append, joinF, if_pos ⟨by simp only [isHi, decide_eq_true_eq]; omega, by simp only [isLo, decide_eq_true_eq]; omega⟩, ih]
      simp only [Option.map_some, Option.some.injEq, List.cons.injEq, and_true]
      unfold pairR
      omega
theorem join_isR : ∀ (n : Nat) (us rs : List Int), us.length ≤ n → joinF us = some rs → ∀ r ∈ rs, isR r = true
  | _, [], rs, _, h => by
    simp only [joinF, Option.some.injEq] at h
    subst h
    intro r hr
    simp at hr
  | _, [u], rs, _, h => by
    rw [joinF] at h
    split at h
    · rename_i hu
      simp only [Option.some.injEq] at h
      subst h
      intro r hr
      obtain rfl := List.mem_singleton.1 hr
      exact hu.2
    · cases h
  | 0, _ :: _ :: _, _, h, _ => by simp at h
  | n + 1, u :: v :: t, rs, hl, h => by
    rw [joinF] at h
    split at h
    · rename_i hu
      simp only [Option.map_eq_some_iff] at h
      obtain ⟨ys, hy, rfl⟩ := h
      intro r hr
      rcases List.mem_cons.1 hr with rfl | hr
      · simp only [isHi, isLo, decide_eq_true_eq] at hu
        obtain ⟨⟨a1, a2⟩, a3, a4⟩ := hu
        simp only [isR, decide_eq_true_eq]
        unfold pairR
        exact .inr ⟨by omega, by omega⟩
      · exact join_isR n t ys (by simp at hl; omega) hy r hr
    · split at h
      · rename_i hu
        simp only [Option.map_eq_some_iff] at h
        obtain ⟨ys, hy, rfl⟩ := h
        intro r hr
        rcases List.mem_cons.1 hr with rfl | hr
        · exact hu.2
        · exact join_isR n (v :: t) ys (by simp at hl ⊢; omega) hy r hr
      · cases h

/-! ### places -/
/-- how many bytes and units stand ahead of each rune, and behind the last one. -/
def placesF : Int → Int → List Int → List (Int × Int)
  | o, u, [] => [(o, u)]
  | o, u, r :: rs => (o, u) :: placesF (o + (encodeRune r).length) (u + widthR r) rs
/-- the byte of a unit. -/
def offF : Int → Int → List Int → Int → Option Int
  | o, u, [], n => if u = n then some o else none
  | o, u, r :: rs, n => if u = n then some o else offF (o + (encodeRune r).length) (u + widthR r) rs n
/-- the unit of a byte. -/
def unitF : Int → Int → List Int → Int → Option Int
  | o, u, [], n => if o = n then some u else none
  | o, u, r :: rs, n => if o = n then some u else unitF (o + (encodeRune r).length) (u + widthR r) rs n
theorem width_pos (r : Int) : 1 ≤ widthR r ∧ widthR r ≤ 2 := by unfold widthR; split <;> omega
theorem off_ge : ∀ (rs : List Int) (o u n x : Int), offF o u rs n = some x → o ≤ x ∧ u ≤ n ∧ (u < n → ∀ r rs', rs = r :: rs' → o + (encodeRune r).length ≤ x)
  | [], o, u, n, x, h => by
    rw [offF] at h
    split at h
    · simp only [Option.some.injEq] at h
      exact ⟨by omega, by omega, fun _ _ _ h => by cases h⟩
    · cases h
  | r :: rs, o, u, n, x, h => by
    rw [offF] at h
    split at h
    · simp only [Option.some.injEq] at h
      exact ⟨by omega, by omega, fun h' => by omega⟩
    · obtain ⟨h1, h2, _⟩ := off_ge rs _ _ n x h
      have := width_pos r
      exact ⟨by omega, by omega, fun _ r' rs' e => by cases e; exact h1⟩
theorem unit_lt : ∀ (rs : List Int), (∀ r ∈ rs, isR r = true) → ∀ (o u n : Int), n < o → unitF o u rs n = none
  | [], _, o, u, n, h => by rw [unitF, if_neg (by omega)]
  | r :: rs, hr, o, u, n, h => by
    have := enc_len r (hr r (List.mem_cons_self ..))
    rw [unitF, if_neg (by omega), unit_lt rs (fun x hx => hr x (List.mem_cons_of_mem _ hx)) _ _ n (by omega)]
theorem off_unit : ∀ (rs : List Int), (∀ r ∈ rs, isR r = true) → ∀ (o u n x : Int), offF o u rs n = some x → unitF o u rs x = some n
  | [], _, o, u, n, x, h => by
    rw [offF] at h
    split at h
    · rename_i e
      simp only [Option.some.injEq] at h
      rw [unitF, if_pos h, e]
    · cases h
  | r :: rs, hr, o, u, n, x, h => by
    rw [offF] at h
    split at h
    · rename_i e
      simp only [Option.some.injEq] at h
      rw [unitF, if_pos h, e]
    · obtain ⟨h1, _⟩ := off_ge rs _ _ n x h
      have := enc_len r (hr r (List.mem_cons_self ..))
      rw [unitF, if_neg (by omega)]
      exact off_unit rs (fun y hy => hr y (List.mem_cons_of_mem _ hy)) _ _ n x h
theorem off_inj : ∀ (rs : List Int), (∀ r ∈ rs, isR r = true) → ∀ (o u n m x y : Int), offF o u rs n = some x → offF o u rs m = some y → n < m → x < y
  | [], _, o, u, n, m, x, y, h1, h2, hlt => by
    rw [offF] at h1 h2
    split at h1
    · split at h2
      · omega
      · cases h2
    · cases h1
  | r :: rs, hr, o, u, n, m, x, y, h1, h2, hlt => by
    have hl := enc_len r (hr r (List.mem_cons_self ..))
    rw [offF] at h1 h2
    split at h1
    · rename_i e
      rw [if_neg (by omega)] at h2
      simp only [Option.some.injEq] at h1
      obtain ⟨k, _⟩ := off_ge rs _ _ m y h2
      omega
    · split at h2
      · rename_i e1 e2
        obtain ⟨_, k, _⟩ := off_ge rs _ _ n x h1
        have := width_pos r
        omega
      · exact off_inj rs (fun z hz => hr z (List.mem_cons_of_mem _ hz)) _ _ n m x y h1 h2 hlt
theorem off_le : ∀ (rs : List Int) (o u n x : Int), offF o u rs n = some x → x ≤ o + (encs rs).length
  | [], o, u, n, x, h => by
    rw [offF] at h
    split at h
    · simp only [Option.some.injEq] at h
      simp [encs]
      omega
    · cases h
  | r :: rs, o, u, n, x, h => by
    rw [encs_cons, List.length_append]
    rw [offF] at h
    split at h
    · simp only [Option.some.injEq] at h
      omega
    · have := off_le rs _ _ n x h
      omega
/-- a text has no more runes than units, no more units than bytes, and at most three bytes a unit. -/
theorem counts : ∀ (rs : List Int), (∀ r ∈ rs, isR r = true) → rs.length ≤ (unitsF rs).length ∧ (unitsF rs).length ≤ (encs rs).length ∧ (encs rs).length ≤ 3 * (unitsF rs).length
  | [], _ => by simp [unitsF, encs]
  | r :: rs, h => by
    obtain ⟨h1, h2, h3⟩ := counts rs fun u hu => h u (List.mem_cons_of_mem _ hu)
    have hl := enc_len r (h r (List.mem_cons_self ..))
    have hu := unitsR_len r
    have : widthR r = 1 ∧ r < 65536 ∨ widthR r = 2 ∧ 65536 ≤ r := by unfold widthR; split <;> omega
    rw [units_cons, encs_cons, List.length_append, List.length_append, List.length_cons]
    omega
end Go.Proofs.YtdeihlbnlogjcaaDoor.Ut
