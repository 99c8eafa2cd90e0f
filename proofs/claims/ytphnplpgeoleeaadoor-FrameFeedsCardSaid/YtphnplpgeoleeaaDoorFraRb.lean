/- The reference's field: plain maths. -/
import Derived.Test.YtphnplpgeoleeaaDoorFraRa
import Derived.Lib.IndexLaws
namespace Go.Proofs.YtphnplpgeoleeaaDoor
open Go.RowKit Go.Lib Go.Shelf
set_option maxRecDepth 100000
set_option linter.unusedVariables false
set_option linter.unusedSectionVars false

def foldC (c : UInt8) : UInt8 := if 65 ≤ c.toNat ∧ c.toNat ≤ 90 then UInt8.ofNat (c.toNat + 32) else c
theorem foldC_nat (c : UInt8) : (foldC c).toNat = if 65 ≤ c.toNat ∧ c.toNat ≤ 90 then c.toNat + 32 else c.toNat := by
  unfold foldC
  split
  · simp
    omega
  · rfl
theorem name_fold_all : ∀ n : Fin 256, (decide (n.val = 45) || (decide (97 ≤ n.val ||| 32) && decide (n.val ||| 32 ≤ 122))) = (decide (97 ≤ (if 65 ≤ n.val ∧ n.val ≤ 90 then n.val + 32 else n.val) ∧ (if 65 ≤ n.val ∧ n.val ≤ 90 then n.val + 32 else n.val) ≤ 122) || decide (n.val = 45)) := by decide +kernel
theorem nameC_fold (c : UInt8) : nameC c = (decide (97 ≤ (foldC c).toNat ∧ (foldC c).toNat ≤ 122) || decide (c.toNat = 45)) := by
  have h := name_fold_all ⟨c.toNat, c.toNat_lt⟩
  have e : decide (c = 45) = decide (c.toNat = 45) := by
    by_cases hc : c = 45
    · rw [decide_eq_true hc, hc]
      rfl
    · rw [decide_eq_false hc]
      symm
      exact decide_eq_false (fun h => hc (UInt8.toNat_inj.1 h))
  unfold nameC
  rw [e, foldC_nat]
  exact h
theorem foldEq_all : ∀ n : Fin 256, ∀ y ∈ clName, decide (n.val = y.toNat ∨ (65 ≤ n.val ∧ n.val ≤ 90 ∧ y.toNat = n.val + 32) ∨ (65 ≤ y.toNat ∧ y.toNat ≤ 90 ∧ n.val = y.toNat + 32)) = decide ((if 65 ≤ n.val ∧ n.val ≤ 90 then n.val + 32 else n.val) = y.toNat) := by decide +kernel
theorem fold_eq : ∀ (s t : List UInt8), (∀ y ∈ t, y ∈ clName) → Lib.equalFold s t = decide (s.map foldC = t)
  | [], [], _ => rfl
  | [], _ :: _, _ => by simp [Lib.equalFold]
  | _ :: _, [], _ => by simp [Lib.equalFold]
  | x :: s, y :: t, h => by
    have h1 : Lib.foldEq x y = decide (foldC x = y) := by
      have h2 := foldEq_all ⟨x.toNat, x.toNat_lt⟩ y (h y List.mem_cons_self)
      unfold Lib.foldEq
      have e : decide (foldC x = y) = decide ((foldC x).toNat = y.toNat) := by
        by_cases hc : foldC x = y
        · rw [decide_eq_true hc, hc]
          simp
        · rw [decide_eq_false hc]
          symm
          exact decide_eq_false (fun h => hc (UInt8.toNat_inj.1 h))
      rw [e, foldC_nat]
      exact h2
    rw [Lib.equalFold, h1, fold_eq s t (fun z hz => h z (List.mem_cons_of_mem _ hz)), Bool.eq_iff_iff]
    simp
/-- what the reference's field answers. -/
def fieldZ (l : List UInt8) : Int := match fieldF l with | none => -2 | some none => -1 | some (some n) => n
theorem fieldF_bad {l : List UInt8} {k : Nat} (hk : (l.take k).all nameC = true) (hb : k = 0 ∨ k = l.length ∨ ∃ c, l[k]? = some c ∧ c ≠ 58) (he : k = l.length ∨ ∃ c, l[k]? = some c ∧ nameC c = false) : fieldF l = none := by
  have hno : ∀ c ∈ l.take k, c ≠ 58 := fun c hc => by
    rintro rfl
    exact absurd (List.all_eq_true.1 hk 58 hc) (by decide)
  unfold fieldF
  rw [if_neg]
  rintro ⟨h1, h2, h3⟩
  unfold Lib.cut at h1 h2
  rcases Lib.index_spec l [58] with ⟨hi, _⟩ | ⟨i, hi, hil, hocc, _⟩
  · rw [hi] at h1
    simp at h1
  · rw [hi, if_pos (by omega)] at h2
    simp only [Int.toNat_natCast] at h2
    have h58 : l[i]? = some 58 := occ_head (sub' := []) hocc
    have hilt : i < l.length := (List.getElem?_eq_some_iff.1 h58).1
    have hik : ¬ i < k := fun h => hno 58 (List.mem_of_getElem? (by rw [List.getElem?_take, if_pos h]; exact h58)) rfl
    have h2' := h2
    unfold nameF at h2'
    rw [Bool.and_eq_true, decide_eq_true_eq] at h2'
    rcases he with he | ⟨c, hc, hcn⟩
    · omega
    · by_cases hik2 : i = k
      · subst hik2
        rcases hb with hb | hb | ⟨d, hd, hd2⟩
        · subst hb
          simp at h2'
        · omega
        · rw [h58] at hd
          exact hd2 (Option.some.inj hd).symm
      · have h4 := List.all_eq_true.1 h2'.2 c (List.mem_of_getElem? (i := k) (by rw [List.getElem?_take, if_pos (by omega)]; exact hc))
        rw [hcn] at h4
        cases h4
theorem fieldF_good {l : List UInt8} {k : Nat} (hk : (l.take k).all nameC = true) (h0 : 0 < k) (hc : l[k]? = some 58) : fieldF l = if (l.drop (k + 1)).all noLB = true then (if (l.take k).map foldC = clName then (match digF (Lib.trimS (l.drop (k + 1)) [32, 9]) with | none => none | some n => some (some n)) else some none) else none := by
  have hlt : k < l.length := (List.getElem?_eq_some_iff.1 hc).1
  have hno : ∀ c ∈ l.take k, c ≠ 58 := fun c hc => by
    rintro rfl
    exact absurd (List.all_eq_true.1 hk 58 hc) (by decide)
  have hsp : l = l.take k ++ [58] ++ l.drop (k + 1) := by
    have h1 : l.drop k = 58 :: l.drop (k + 1) := by
      rw [List.drop_eq_getElem_cons hlt]
      congr 1
      rw [List.getElem?_eq_getElem hlt] at hc
      exact Option.some.inj hc
    rw [List.append_assoc, List.singleton_append, ← h1, List.take_append_drop]
  have hcut : Lib.cut l [58] = (l.take k, l.drop (k + 1), true) := by
    have h := cut_at (c := 58) (sub' := []) (t := l.drop (k + 1)) hno
    rwa [← hsp] at h
  have hn : nameF (l.take k) = true := by
    have hne : l.take k ≠ [] := fun h => by
      have h2 : (l.take k).length = 0 := by rw [h]; rfl
      rw [List.length_take] at h2
      omega
    unfold nameF
    rw [hk, decide_eq_true hne]
    rfl
  unfold fieldF
  rw [hcut]
  dsimp only
  rw [fold_eq _ _ (fun y hy => hy), hn]
  by_cases hv : (l.drop (k + 1)).all noLB = true
  · rw [if_pos ⟨rfl, rfl, hv⟩, if_pos hv]
    by_cases hf : (l.take k).map foldC = clName
    · rw [if_pos hf, if_pos (by simpa using hf)]
      cases digF (Lib.trimS (l.drop (k + 1)) [32, 9]) <;> rfl
    · rw [if_neg hf, if_neg (by simpa using hf)]
  · rw [if_neg (fun h => hv h.2.2), if_neg hv]
theorem trim_mid {p m q : List UInt8} (hp : ∀ c ∈ p, c = 32 ∨ c = 9) (hq : ∀ c ∈ q, c = 32 ∨ c = 9) (h1 : ∀ c, m[0]? = some c → c ≠ 32 ∧ c ≠ 9) (h2 : ∀ c, m[m.length - 1]? = some c → c ≠ 32 ∧ c ≠ 9) : Lib.trimS (p ++ m ++ q) [32, 9] = m := by
  have yes : ∀ c : UInt8, (c = 32 ∨ c = 9) → ([32, 9] : List UInt8).contains c = true := fun c h => by rcases h with rfl | rfl <;> rfl
  have no : ∀ c : UInt8, (c ≠ 32 ∧ c ≠ 9) → ([32, 9] : List UInt8).contains c = false := fun c h => by simp [h.1, h.2]
  by_cases hm : m = []
  · subst hm
    have hall : ∀ (j : Nat) b, (p ++ [] ++ q)[j]? = some b → ([32, 9] : List UInt8).contains b = true := fun j b hb => by
      have := List.mem_of_getElem? hb
      rw [List.append_nil] at this
      rcases List.mem_append.1 this with h | h
      · exact yes b (hp b h)
      · exact yes b (hq b h)
    have hr : Lib.trimRightS (p ++ [] ++ q) [32, 9] = [] := by
      rw [Lib.trimRightS_take _ [32, 9] 0 (Nat.zero_le _) (fun j b _ hb => hall j b hb) (fun b h _ => absurd h (by decide))]
      rfl
    unfold Lib.trimS
    rw [hr, Lib.trimLeftS_drop [] [32, 9] 0 (Nat.zero_le _) (fun j b h _ => absurd h (by omega)) (fun b hb => by simp at hb)]
    rfl
  · have hmp : 0 < m.length := List.length_pos_iff.2 hm
    have hr : Lib.trimRightS (p ++ m ++ q) [32, 9] = p ++ m := by
      rw [Lib.trimRightS_take _ [32, 9] (p ++ m).length (by simp) (fun j b hj hb => by
        rw [List.getElem?_append_right hj] at hb
        exact yes b (hq b (List.mem_of_getElem? hb))) (fun b _ hb => by
        rw [List.length_append, List.append_assoc, List.getElem?_append_right (by omega), List.getElem?_append_left (by omega), show p.length + m.length - 1 - p.length = m.length - 1 by omega] at hb
        exact no b (h2 b hb)), List.take_left]
    unfold Lib.trimS
    rw [hr, Lib.trimLeftS_drop (p ++ m) [32, 9] p.length (by simp) (fun j b hj hb => by
      rw [List.getElem?_append_left hj] at hb
      exact yes b (hp b (List.mem_of_getElem? hb))) (fun b hb => by
      rw [List.getElem?_append_right (Nat.le_refl _), Nat.sub_self] at hb
      exact no b (h1 b hb)), List.drop_left]
end Go.Proofs.YtphnplpgeoleeaaDoor
