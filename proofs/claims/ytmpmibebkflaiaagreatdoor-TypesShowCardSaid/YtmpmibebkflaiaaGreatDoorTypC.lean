/- Types as plain data: parts, rightness, substitution, instances, closing: what layer 12 computes. Types as plain data: substitution, instances, closing: what holds of them. How much a type weighs, plain. -/

namespace Go.Proofs.YtmpmibebkflaiaaGreatDoor
namespace Tp

inductive Ty where
  | mk (kind num : Int) (name : ByteArray) (args : List Ty)
namespace Ty
def kind : Ty → Int | mk k _ _ _ => k
def num : Ty → Int | mk _ n _ _ => n
def name : Ty → ByteArray | mk _ _ s _ => s
def args : Ty → List Ty | mk _ _ _ as => as
theorem eta (t : Ty) : mk t.kind t.num t.name t.args = t := by cases t; rfl
mutual
def wt : Ty → Nat
  | mk _ _ _ as => 1 + wts as
def wts : List Ty → Nat
  | [] => 0
  | t :: ts => wt t + wts ts
end
theorem wt_eq (t : Ty) : t.wt = 1 + wts t.args := by cases t; rw [wt]; rfl
theorem wt_mem : ∀ {as : List Ty} {x : Ty}, x ∈ as → x.wt ≤ wts as
  | a :: as, x, h => by
    rw [wts]
    rcases List.mem_cons.1 h with rfl | h
    · omega
    · have := wt_mem h; omega
theorem wt_lt {t x : Ty} (h : x ∈ t.args) : x.wt < t.wt := by
  have := wt_mem h
  rw [wt_eq t]; omega
/-- induction by weight. -/
theorem ind {P : Ty → Prop} (h : ∀ t, (∀ x ∈ t.args, P x) → P t) : ∀ t, P t := by
  have key : ∀ n, ∀ t : Ty, t.wt ≤ n → P t := by
    intro n
    induction n with
    | zero => intro t ht; have := wt_eq t; omega
    | succ n ih => intro t ht; exact h t fun x hx => ih x (by have := wt_lt hx; omega)
  exact fun t => key t.wt t (Nat.le_refl _)
end Ty
open Ty

/-! ### the parts -/
mutual
def parts : Ty → List Ty
  | .mk k n s as => .mk k n s as :: partss as
def partss : List Ty → List Ty
  | [] => []
  | t :: ts => parts t ++ partss ts
end
theorem parts_eq (t : Ty) : parts t = t :: partss t.args := by cases t; rw [parts]; rfl
theorem partss_eq (as : List Ty) : partss as = as.flatMap parts := by
  induction as with
  | nil => rw [partss]; rfl
  | cons a as ih => rw [partss, ih]; rfl
theorem parts_len (t : Ty) : (parts t).length = t.wt := by
  refine Ty.ind (P := fun t => (parts t).length = t.wt) (fun t ih => ?_) t
  have key : ∀ as : List Ty, (∀ x ∈ as, (parts x).length = x.wt) → (partss as).length = wts as := by
    intro as
    induction as with
    | nil => intro _; rw [partss, wts]; rfl
    | cons a as ih2 =>
      intro h
      rw [partss, wts, List.length_append, h a (by simp), ih2 fun x hx => h x (by simp [hx])]
  rw [parts_eq, List.length_cons, key _ ih, wt_eq]; omega
theorem parts_mem {t x p : Ty} (hx : x ∈ t.args) (hp : p ∈ parts x) : p ∈ parts t := by
  rw [parts_eq, partss_eq]
  exact List.mem_cons_of_mem _ (List.mem_flatMap.2 ⟨x, hx, hp⟩)
theorem parts_self (t : Ty) : t ∈ parts t := by rw [parts_eq]; simp

/-! ### rightness -/
/-- is a part as its kind must be? isName: is a text a name? -/
def rightPart (isName : ByteArray → Bool) (t : Ty) : Bool :=
  if t.kind = 1 then decide (0 ≤ t.num ∧ t.num < 1073741824) && (t.name.size == 0) && (t.args.length == 0)
  else if t.kind = 2 then decide (t.num = 0) && isName t.name
  else if t.kind = 3 then decide (t.num = 0) && (t.name.size == 0) && decide (2 ≤ t.args.length)
  else if t.kind = 4 then decide (t.num = 0) && (t.name.size == 0) && (t.args.length == 2)
  else false
def rightF (isName : ByteArray → Bool) (t : Ty) : Bool := decide ((parts t).length ≤ 300) && (parts t).all (rightPart isName)

/-! ### alikeness -/
mutual
def sameF : Ty → Ty → Bool
  | .mk k n s as, .mk k' n' s' as' => (k == k') && (n == n') && decide (s = s') && sameFs as as'
def sameFs : List Ty → List Ty → Bool
  | [], [] => true
  | t :: ts, u :: us => sameF t u && sameFs ts us
  | _, _ => false
end
theorem same_iff (t : Ty) : ∀ u, sameF t u = true ↔ t = u := by
  refine Ty.ind (P := fun t => ∀ u, sameF t u = true ↔ t = u) (fun t ih => ?_) t
  have key : ∀ as : List Ty, (∀ x ∈ as, ∀ u, sameF x u = true ↔ x = u) → ∀ bs, sameFs as bs = true ↔ as = bs := by
    intro as
    induction as with
    | nil => intro _ bs; cases bs <;> simp [sameFs]
    | cons a as ih2 =>
      intro h bs
      cases bs with
      | nil => simp [sameFs]
      | cons b bs => rw [sameFs, Bool.and_eq_true, h a (by simp), ih2 (fun x hx => h x (by simp [hx])), List.cons.injEq]
  intro u
  obtain ⟨k, n, s, as⟩ := t
  obtain ⟨k', n', s', as'⟩ := u
  rw [sameF, Bool.and_eq_true, key as ih as', Bool.and_eq_true, Bool.and_eq_true, beq_iff_eq, beq_iff_eq, decide_eq_true_iff, Ty.mk.injEq]
  exact ⟨fun ⟨⟨⟨a, b⟩, c⟩, d⟩ => ⟨a, b, c, d⟩, fun ⟨a, b, c, d⟩ => ⟨⟨⟨a, b⟩, c⟩, d⟩⟩
instance : DecidableEq Ty := fun a b => decidable_of_iff (sameF a b = true) (same_iff a b)
theorem same_decide (a b : Ty) : sameF a b = decide (a = b) := by
  rw [Bool.eq_iff_iff, same_iff, decide_eq_true_iff]

theorem sameF_eq (t u : Ty) : sameF t u = ((t.kind == u.kind) && (t.num == u.num) && decide (t.name = u.name) && sameFs t.args u.args) := by
  cases t; cases u; rw [sameF]; rfl
theorem sameFs_cons (t u : Ty) (ts us : List Ty) : sameFs (t :: ts) (u :: us) = (sameF t u && sameFs ts us) := by rw [sameFs]
theorem sameFs_nil : sameFs [] [] = true := by rw [sameFs]
theorem sameFs_len : ∀ {ts us : List Ty}, ts.length ≠ us.length → sameFs ts us = false
  | [], [], h => absurd rfl h
  | [], u :: us, _ => by simp [sameFs]
  | t :: ts, [], _ => by simp [sameFs]
  | t :: ts, u :: us, h => by
    rw [sameFs, sameFs_len (fun e => h (by simp [e])), Bool.and_false]

/-! ### substitution -/
mutual
def subst (σ : Int → Ty) : Ty → Ty
  | .mk k n s as => if k = 1 then σ n else .mk k n s (substs σ as)
def substs (σ : Int → Ty) : List Ty → List Ty
  | [] => []
  | t :: ts => subst σ t :: substs σ ts
end
theorem substs_eq (σ : Int → Ty) (as : List Ty) : substs σ as = as.map (subst σ) := by
  induction as with
  | nil => rw [substs]; rfl
  | cons a as ih => rw [substs, ih]; rfl
theorem subst_eq (σ : Int → Ty) (t : Ty) : subst σ t = if t.kind = 1 then σ t.num else .mk t.kind t.num t.name (t.args.map (subst σ)) := by
  cases t; rw [subst, substs_eq]; rfl
theorem subst_var {σ : Int → Ty} {t : Ty} (h : t.kind = 1) : subst σ t = σ t.num := by rw [subst_eq, if_pos h]
theorem subst_con {σ : Int → Ty} {t : Ty} (h : t.kind ≠ 1) : subst σ t = .mk t.kind t.num t.name (t.args.map (subst σ)) := by rw [subst_eq, if_neg h]
def var (n : Int) : Ty := .mk 1 n ⟨#[]⟩ []

mutual
/-- the variables, in the order in which they first stand, behind others. -/
def vars (met : List Int) : Ty → List Int
  | .mk k n _ as => if k = 1 then (if met.contains n then met else met ++ [n]) else varss met as
def varss (met : List Int) : List Ty → List Int
  | [] => met
  | t :: ts => varss (vars met t) ts
end
theorem varss_eq (as : List Ty) : ∀ met, varss met as = as.foldl vars met := by
  induction as with
  | nil => intro met; rw [varss]; rfl
  | cons a as ih => intro met; rw [varss, ih]; rfl
theorem vars_eq (met : List Int) (t : Ty) : vars met t = if t.kind = 1 then (if met.contains t.num then met else met ++ [t.num]) else t.args.foldl vars met := by
  cases t; rw [vars, varss_eq]; rfl
def place (l : List Int) (n : Int) : Option Nat := l.findIdx? (fun x => x == n)
/-- a type whose variables are told by their places in a list. -/
def renamed (l : List Int) (t : Ty) : Ty := subst (fun n => match place l n with | some i => var i | none => var n) t
def closeF (t : Ty) : Ty := renamed (vars [] t) t

/-! ### instances -/
def look (f : List (Int × Ty)) (n : Int) : Option Ty := (f.find? (fun p => p.1 == n)).map (·.2)
mutual
def fits (f : List (Int × Ty)) : Ty → Ty → Bool × List (Int × Ty)
  | .mk k n s as, t =>
    if k = 1 then
      match look f n with
      | none => (true, f ++ [(n, t)])
      | some x => (sameF x t, f)
    else if k = t.kind ∧ s = t.name ∧ as.length = t.args.length then fitss f as t.args
    else (false, f)
def fitss (f : List (Int × Ty)) : List Ty → List Ty → Bool × List (Int × Ty)
  | [], _ => (true, f)
  | a :: as, bs =>
    match bs with
    | [] => (true, f)
    | b :: bs => if (fits f a b).1 then fitss (fits f a b).2 as bs else (false, (fits f a b).2)
end
def instF (isName : ByteArray → Bool) (g t : Ty) : Bool := rightF isName g && rightF isName t && (fits [] g t).1
end Tp
end Go.Proofs.YtmpmibebkflaiaaGreatDoor
namespace Go.Proofs.YtmpmibebkflaiaaGreatDoor
namespace Tp
open Ty

/-! ### parts -/
theorem parts_trans {t x p : Ty} (hx : x ∈ parts t) (hp : p ∈ parts x) : p ∈ parts t := by
  revert x p
  refine Ty.ind (P := fun t => ∀ {x p : Ty}, x ∈ parts t → p ∈ parts x → p ∈ parts t) (fun t ih => ?_) t
  intro x p hx hp
  rw [parts_eq, partss_eq] at hx
  rcases List.mem_cons.1 hx with rfl | hx
  · exact hp
  · obtain ⟨y, hy, hxy⟩ := List.mem_flatMap.1 hx
    exact parts_mem hy (ih y hy hxy hp)
def okT (isName : ByteArray → Bool) (t : Ty) : Prop := ∀ p ∈ parts t, rightPart isName p = true
theorem right_ok {isName : ByteArray → Bool} {t : Ty} (h : rightF isName t = true) : okT isName t ∧ t.wt ≤ 300 := by
  unfold rightF at h
  rw [Bool.and_eq_true, decide_eq_true_iff, List.all_eq_true, parts_len] at h
  exact ⟨h.2, h.1⟩
theorem ok_right {isName : ByteArray → Bool} {t : Ty} (h : okT isName t) (hw : t.wt ≤ 300) : rightF isName t = true := by
  unfold rightF
  rw [Bool.and_eq_true, decide_eq_true_iff, List.all_eq_true, parts_len]
  exact ⟨hw, h⟩
theorem okT.arg {isName : ByteArray → Bool} {t x : Ty} (h : okT isName t) (hx : x ∈ t.args) : okT isName x := fun p hp => h p (parts_mem hx hp)
theorem okT.self {isName : ByteArray → Bool} {t : Ty} (h : okT isName t) : rightPart isName t = true := h t (parts_self t)
theorem okT_mk {isName : ByteArray → Bool} {t : Ty} (h : rightPart isName t = true) (ha : ∀ x ∈ t.args, okT isName x) : okT isName t := by
  intro p hp
  rw [parts_eq, partss_eq] at hp
  rcases List.mem_cons.1 hp with rfl | hp
  · exact h
  · obtain ⟨y, hy, hpy⟩ := List.mem_flatMap.1 hp
    exact ha y hy p hpy
theorem ba_nil {s : ByteArray} (h : s.size = 0) : s = ⟨#[]⟩ := by
  obtain ⟨d⟩ := s
  congr
  exact Array.eq_empty_of_size_eq_zero h
theorem rp_var {isName : ByteArray → Bool} {t : Ty} (h : rightPart isName t = true) (hk : t.kind = 1) : t = var t.num ∧ 0 ≤ t.num ∧ t.num < 1073741824 := by
  unfold rightPart at h
  rw [if_pos hk, Bool.and_eq_true, Bool.and_eq_true, decide_eq_true_iff, beq_iff_eq, beq_iff_eq] at h
  refine ⟨?_, h.1.1⟩
  have := Ty.eta t
  rw [hk, ba_nil h.1.2, List.eq_nil_of_length_eq_zero h.2] at this
  exact this.symm
theorem rp_num {isName : ByteArray → Bool} {t : Ty} (h : rightPart isName t = true) (hk : t.kind ≠ 1) : t.num = 0 := by
  unfold rightPart at h
  rw [if_neg hk] at h
  split at h
  · rw [Bool.and_eq_true, decide_eq_true_iff] at h; exact h.1
  · split at h
    · rw [Bool.and_eq_true, Bool.and_eq_true, decide_eq_true_iff] at h; exact h.1.1
    · split at h
      · rw [Bool.and_eq_true, Bool.and_eq_true, decide_eq_true_iff] at h; exact h.1.1
      · cases h
theorem rp_of_var (isName : ByteArray → Bool) {n : Int} (h0 : 0 ≤ n) (h : n < 1073741824) : rightPart isName (var n) = true := by
  have : (var n).kind = 1 := rfl
  unfold rightPart
  rw [if_pos this]
  simp [var, num, name, args, h0, h]
  rfl
/-- a part's rightness hangs on kind, number, name and how many args it has. -/
theorem rp_congr {isName : ByteArray → Bool} {t u : Ty} (h1 : u.kind = t.kind) (h2 : u.num = t.num) (h3 : u.name = t.name) (h4 : u.args.length = t.args.length) : rightPart isName u = rightPart isName t := by
  unfold rightPart
  rw [h1, h2, h3, h4]

/-! ### substitution -/
theorem subst_congr (t : Ty) : ∀ {σ τ : Int → Ty}, (∀ p ∈ parts t, p.kind = 1 → σ p.num = τ p.num) → subst σ t = subst τ t := by
  refine Ty.ind (P := fun t => ∀ {σ τ : Int → Ty}, (∀ p ∈ parts t, p.kind = 1 → σ p.num = τ p.num) → subst σ t = subst τ t) (fun t ih => ?_) t
  intro σ τ h
  by_cases hk : t.kind = 1
  · rw [subst_var hk, subst_var hk]
    exact h t (parts_self t) hk
  · rw [subst_con hk, subst_con hk]
    congr 1
    exact List.map_congr_left fun x hx => ih x hx fun p hp => h p (parts_mem hx hp)
theorem subst_subst (σ τ : Int → Ty) (t : Ty) : subst τ (subst σ t) = subst (fun n => subst τ (σ n)) t := by
  refine Ty.ind (P := fun t => subst τ (subst σ t) = subst (fun n => subst τ (σ n)) t) (fun t ih => ?_) t
  by_cases hk : t.kind = 1
  · rw [subst_var hk, subst_var hk]
  · rw [subst_con hk, subst_con hk, subst_con (t := mk t.kind t.num t.name _) hk]
    show mk t.kind t.num t.name (List.map (subst τ) (List.map (subst σ) t.args)) = _
    rw [List.map_map]
    congr 1
    exact List.map_congr_left fun x hx => ih x hx
theorem subst_id {isName : ByteArray → Bool} (t : Ty) : okT isName t → subst var t = t := by
  refine Ty.ind (P := fun t => okT isName t → subst var t = t) (fun t ih => ?_) t
  intro h
  by_cases hk : t.kind = 1
  · rw [subst_var hk]
    exact (rp_var h.self hk).1.symm
  · rw [subst_con hk]
    conv => rhs; rw [← Ty.eta t]
    congr 1
    conv => rhs; rw [← List.map_id t.args]
    exact List.map_congr_left fun x hx => ih x hx (h.arg hx)
theorem subst_self {isName : ByteArray → Bool} {t : Ty} {σ : Int → Ty} (ho : okT isName t) (h : ∀ p ∈ parts t, p.kind = 1 → σ p.num = var p.num) : subst σ t = t := (subst_congr t h).trans (subst_id t ho)
theorem var_parts {isName : ByteArray → Bool} {t p : Ty} (ho : okT isName t) (hk : t.kind = 1) (hp : p ∈ parts t) : p = t := by
  have h := (rp_var ho.self hk).1
  rw [h] at hp
  rw [h]
  simpa [parts_eq, partss_eq, var, args] using hp
/-- what stands in a variable's place is a part of what comes. -/
theorem subst_part {isName : ByteArray → Bool} (t : Ty) : okT isName t → ∀ {σ : Int → Ty} {p : Ty}, p ∈ parts t → p.kind = 1 → σ p.num ∈ parts (subst σ t) := by
  refine Ty.ind (P := fun t => okT isName t → ∀ {σ : Int → Ty} {p : Ty}, p ∈ parts t → p.kind = 1 → σ p.num ∈ parts (subst σ t)) (fun t ih => ?_) t
  intro ho σ p hp hk1
  by_cases hk : t.kind = 1
  · rw [var_parts ho hk hp, subst_var hk]
    exact parts_self _
  · rw [subst_con hk]
    rw [parts_eq, partss_eq] at hp
    rcases List.mem_cons.1 hp with rfl | hp
    · exact absurd hk1 hk
    · obtain ⟨y, hy, hpy⟩ := List.mem_flatMap.1 hp
      exact parts_mem (t := mk _ _ _ _) (List.mem_map.2 ⟨y, hy, rfl⟩) (ih y hy (ho.arg hy) hpy hk1)
/-- with right types in the places of variables a right type's parts are right. -/
theorem subst_ok {isName : ByteArray → Bool} (t : Ty) : okT isName t → ∀ {σ : Int → Ty}, (∀ p ∈ parts t, p.kind = 1 → okT isName (σ p.num)) → okT isName (subst σ t) := by
  refine Ty.ind (P := fun t => okT isName t → ∀ {σ : Int → Ty}, (∀ p ∈ parts t, p.kind = 1 → okT isName (σ p.num)) → okT isName (subst σ t)) (fun t ih => ?_) t
  intro ho σ h
  by_cases hk : t.kind = 1
  · rw [subst_var hk]
    exact h t (parts_self t) hk
  · rw [subst_con hk]
    refine okT_mk ?_ ?_
    · rw [← ho.self]
      exact rp_congr rfl rfl rfl (List.length_map _)
    · intro x hx
      obtain ⟨y, hy, rfl⟩ := List.mem_map.1 (show x ∈ t.args.map (subst σ) from hx)
      exact ih y hy (ho.arg hy) fun p hp => h p (parts_mem hy hp)
/-- with variables in the places of variables nothing grows. -/
theorem subst_wt {isName : ByteArray → Bool} (t : Ty) : okT isName t → ∀ {σ : Int → Ty}, (∀ p ∈ parts t, p.kind = 1 → ∃ m, σ p.num = var m) → (subst σ t).wt = t.wt := by
  refine Ty.ind (P := fun t => okT isName t → ∀ {σ : Int → Ty}, (∀ p ∈ parts t, p.kind = 1 → ∃ m, σ p.num = var m) → (subst σ t).wt = t.wt) (fun t ih => ?_) t
  intro ho σ h
  by_cases hk : t.kind = 1
  · rw [subst_var hk]
    obtain ⟨m, hm⟩ := h t (parts_self t) hk
    rw [hm, (rp_var ho.self hk).1]
    rfl
  · rw [subst_con hk, wt_eq, wt_eq t]
    show 1 + wts (t.args.map (subst σ)) = 1 + wts t.args
    congr 1
    have key : ∀ as : List Ty, (∀ x ∈ as, (subst σ x).wt = x.wt) → wts (as.map (subst σ)) = wts as := by
      intro as
      induction as with
      | nil => intro _; rfl
      | cons a as ih2 => intro h; rw [List.map_cons, wts, wts, h a (by simp), ih2 fun x hx => h x (by simp [hx])]
    exact key _ fun x hx => ih x hx (ho.arg hx) fun p hp => h p (parts_mem hx hp)

/-! ### instances -/
def agree (f : List (Int × Ty)) (σ : Int → Ty) : Prop := ∀ n x, look f n = some x → σ n = x
theorem look_snoc (f : List (Int × Ty)) (n m : Int) (t : Ty) (hn : look f n = none) : look (f ++ [(n, t)]) m = if n = m then some t else look f m := by
  unfold look at *
  rw [List.find?_append]
  by_cases h : n = m
  · subst h
    rw [Option.map_eq_none_iff] at hn
    rw [hn]
    simp
  · rw [if_neg h]
    cases hf : f.find? (fun p => p.1 == m) with
    | some y => simp
    | none => simp [h]
theorem fits_eq (f : List (Int × Ty)) (g t : Ty) : fits f g t = if g.kind = 1 then (match look f g.num with | none => (true, f ++ [(g.num, t)]) | some x => (sameF x t, f)) else if g.kind = t.kind ∧ g.name = t.name ∧ g.args.length = t.args.length then fitss f g.args t.args else (false, f) := by
  cases g; rw [fits]; rfl
/-- what a fit says. -/
def FitP (f : List (Int × Ty)) (g t : Ty) : Prop :=
  ((fits f g t).1 = true → (∀ n x, look f n = some x → look (fits f g t).2 n = some x) ∧ ∀ σ, agree (fits f g t).2 σ → subst σ g = t) ∧
  (∀ σ, agree f σ → subst σ g = t → (fits f g t).1 = true ∧ agree (fits f g t).2 σ)
theorem fitss_all : ∀ (as bs : List Ty), as.length = bs.length → (∀ x ∈ as, ∀ y ∈ bs, ∀ f, FitP f x y) → ∀ f,
    ((fitss f as bs).1 = true → (∀ n x, look f n = some x → look (fitss f as bs).2 n = some x) ∧ ∀ σ, agree (fitss f as bs).2 σ → as.map (subst σ) = bs) ∧
    (∀ σ, agree f σ → as.map (subst σ) = bs → (fitss f as bs).1 = true ∧ agree (fitss f as bs).2 σ)
  | [], [], _, _, f => by
    rw [fitss]
    exact ⟨fun _ => ⟨fun _ _ h => h, fun _ _ => rfl⟩, fun σ h _ => ⟨rfl, h⟩⟩
  | a :: as, b :: bs, hl, h, f => by
    have h0 := h a (by simp) b (by simp) f
    have ih := fitss_all as bs (by simpa using hl) (fun x hx y hy => h x (by simp [hx]) y (by simp [hy])) (fits f a b).2
    rw [fitss]
    constructor
    · intro ht
      by_cases hc : (fits f a b).1 = true
      · rw [if_pos hc] at ht ⊢
        obtain ⟨e1, s1⟩ := h0.1 hc
        obtain ⟨e2, s2⟩ := ih.1 ht
        refine ⟨fun n x hx => e2 n x (e1 n x hx), fun σ hσ => ?_⟩
        rw [List.map_cons, s2 σ hσ, s1 σ fun n x hx => hσ n x (e2 n x hx)]
      · rw [if_neg hc] at ht
        cases ht
    · intro σ hσ he
      rw [List.map_cons, List.cons.injEq] at he
      obtain ⟨c1, c2⟩ := h0.2 σ hσ he.1
      rw [if_pos c1]
      exact ih.2 σ c2 he.2
theorem fits_all {isName : ByteArray → Bool} (g : Ty) : okT isName g → ∀ t, okT isName t → ∀ f, FitP f g t := by
  refine Ty.ind (P := fun g => okT isName g → ∀ t, okT isName t → ∀ f, FitP f g t) (fun g ih => ?_) g
  intro hg t ht f
  unfold FitP
  rw [fits_eq]
  by_cases hk : g.kind = 1
  · rw [if_pos hk]
    cases hl : look f g.num with
    | none =>
      refine ⟨fun _ => ⟨fun n x hx => ?_, fun σ hσ => ?_⟩, fun σ hσ he => ⟨rfl, fun n x hx => ?_⟩⟩
      · show look (f ++ [(g.num, t)]) n = some x
        rw [look_snoc _ _ _ _ hl, if_neg (by rintro rfl; rw [hl] at hx; cases hx)]
        exact hx
      · rw [subst_var hk]
        exact hσ _ _ (by show look (f ++ [(g.num, t)]) _ = _; rw [look_snoc _ _ _ _ hl, if_pos rfl])
      · have hx : look (f ++ [(g.num, t)]) n = some x := hx
        rw [look_snoc _ _ _ _ hl] at hx
        split at hx
        · rename_i e
          rw [← e, ← subst_var (σ := σ) hk, he]
          simpa using hx
        · exact hσ n x hx
    | some x =>
      refine ⟨fun h => ⟨fun _ _ h => h, fun σ hσ => ?_⟩, fun σ hσ he => ⟨?_, hσ⟩⟩
      · rw [subst_var hk, hσ _ _ hl]
        exact (same_iff x t).1 h
      · rw [subst_var hk, hσ _ _ hl] at he
        exact (same_iff x t).2 he
  · rw [if_neg hk]
    by_cases hc : g.kind = t.kind ∧ g.name = t.name ∧ g.args.length = t.args.length
    · rw [if_pos hc]
      have key := fitss_all g.args t.args hc.2.2 (fun x hx y hy f => ih x hx (hg.arg hx) y (ht.arg hy) f) f
      refine ⟨fun h => ⟨(key.1 h).1, fun σ hσ => ?_⟩, fun σ hσ he => key.2 σ hσ ?_⟩
      · rw [subst_con hk, (key.1 h).2 σ hσ, hc.1, hc.2.1, show g.num = t.num by rw [rp_num hg.self hk, rp_num ht.self (by rw [← hc.1]; exact hk)], Ty.eta]
      · rw [subst_con hk] at he
        rw [← he]
        rfl
    · rw [if_neg hc]
      refine ⟨nofun, fun σ hσ he => (hc ?_).elim⟩
      rw [subst_con hk] at he
      rw [← he]
      exact ⟨rfl, rfl, (List.length_map _).symm⟩
theorem inst_iff (isName : ByteArray → Bool) (g t : Ty) : instF isName g t = true ↔ rightF isName g = true ∧ rightF isName t = true ∧ ∃ σ, subst σ g = t := by
  unfold instF
  rw [Bool.and_eq_true, Bool.and_eq_true, and_assoc]
  refine and_congr_right fun hg => and_congr_right fun ht => ?_
  have h := fits_all g (right_ok hg).1 t (right_ok ht).1 []
  constructor
  · intro hf
    refine ⟨fun n => (look (fits [] g t).2 n).getD (var n), (h.1 hf).2 _ fun n x hx => ?_⟩
    show (look (fits [] g t).2 n).getD (var n) = x
    rw [hx]; rfl
  · rintro ⟨σ, hσ⟩
    exact (h.2 σ (fun n x hx => by simp [look] at hx) hσ).1
theorem inst_trans {isName : ByteArray → Bool} {a b c : Ty} (h1 : instF isName a b = true) (h2 : instF isName b c = true) : instF isName a c = true := by
  rw [inst_iff] at *
  obtain ⟨ha, hb, σ, rfl⟩ := h1
  obtain ⟨-, hc, τ, rfl⟩ := h2
  exact ⟨ha, hc, _, (subst_subst σ τ a).symm⟩

/-! ### closing -/
def isVar (t : Ty) (n : Int) : Prop := ∃ p ∈ parts t, p.kind = 1 ∧ p.num = n
theorem isVar_arg {t x : Ty} {n : Int} (hx : x ∈ t.args) (h : isVar x n) : isVar t n := by
  obtain ⟨p, hp, h⟩ := h
  exact ⟨p, parts_mem hx hp, h⟩
theorem isVar_con {t : Ty} {n : Int} (hk : t.kind ≠ 1) : isVar t n ↔ ∃ x ∈ t.args, isVar x n := by
  constructor
  · rintro ⟨p, hp, h1, h2⟩
    rw [parts_eq, partss_eq] at hp
    rcases List.mem_cons.1 hp with rfl | hp
    · exact absurd h1 hk
    · obtain ⟨y, hy, hpy⟩ := List.mem_flatMap.1 hp
      exact ⟨y, hy, p, hpy, h1, h2⟩
  · rintro ⟨x, hx, h⟩
    exact isVar_arg hx h
theorem isVar_var {isName : ByteArray → Bool} {t : Ty} {n : Int} (ho : okT isName t) (hk : t.kind = 1) : isVar t n ↔ t.num = n := by
  constructor
  · rintro ⟨p, hp, h1, h2⟩
    rw [var_parts ho hk hp] at h2
    exact h2
  · intro h
    exact ⟨t, parts_self t, hk, h⟩
theorem vars_mem {isName : ByteArray → Bool} (t : Ty) : okT isName t → ∀ met n, n ∈ vars met t ↔ n ∈ met ∨ isVar t n := by
  refine Ty.ind (P := fun t => okT isName t → ∀ met n, n ∈ vars met t ↔ n ∈ met ∨ isVar t n) (fun t ih => ?_) t
  intro ho met n
  rw [vars_eq]
  by_cases hk : t.kind = 1
  · rw [if_pos hk, isVar_var ho hk]
    split
    · rename_i h
      have h : t.num ∈ met := by simpa using h
      exact ⟨fun h => .inl h, fun h' => h'.elim id fun e => e ▸ h⟩
    · rw [List.mem_append, List.mem_singleton]
      exact or_congr_right ⟨fun h => h.symm, fun h => h.symm⟩
  · rw [if_neg hk, isVar_con hk]
    have key : ∀ as : List Ty, (∀ x ∈ as, okT isName x ∧ ∀ met n, n ∈ vars met x ↔ n ∈ met ∨ isVar x n) → ∀ met, n ∈ as.foldl vars met ↔ n ∈ met ∨ ∃ x ∈ as, isVar x n := by
      intro as
      induction as with
      | nil => intro _ met; simp
      | cons a as ih2 =>
        intro h met
        rw [List.foldl_cons, ih2 (fun x hx => h x (by simp [hx])), (h a (by simp)).2, or_assoc]
        refine or_congr_right ⟨?_, ?_⟩
        · rintro (h | ⟨x, hx, h⟩)
          · exact ⟨a, by simp, h⟩
          · exact ⟨x, by simp [hx], h⟩
        · rintro ⟨x, hx, h'⟩
          rcases List.mem_cons.1 hx with rfl | hx
          · exact .inl h'
          · exact .inr ⟨x, hx, h'⟩
    exact key _ (fun x hx => ⟨ho.arg hx, ih x hx (ho.arg hx)⟩) met
theorem vars_nodup {isName : ByteArray → Bool} (t : Ty) : okT isName t → ∀ met : List Int, met.Nodup → (vars met t).Nodup := by
  refine Ty.ind (P := fun t => okT isName t → ∀ met : List Int, met.Nodup → (vars met t).Nodup) (fun t ih => ?_) t
  intro ho met hm
  rw [vars_eq]
  by_cases hk : t.kind = 1
  · rw [if_pos hk]
    split
    · exact hm
    · rename_i h
      have h : t.num ∉ met := by simpa using h
      rw [List.nodup_append]
      exact ⟨hm, by simp, fun a ha b hb => by rw [List.mem_singleton.1 hb]; rintro rfl; exact h ha⟩
  · rw [if_neg hk]
    have key : ∀ as : List Ty, (∀ x ∈ as, ∀ met : List Int, met.Nodup → (vars met x).Nodup) → ∀ met : List Int, met.Nodup → (as.foldl vars met).Nodup := by
      intro as
      induction as with
      | nil => intro _ met h; exact h
      | cons a as ih2 =>
        intro h met hm
        rw [List.foldl_cons]
        exact ih2 (fun x hx => h x (by simp [hx])) _ (h a (by simp) met hm)
    exact key _ (fun x hx => ih x hx (ho.arg hx)) met hm
/-- names told other ones throughout. -/
theorem vars_map {isName : ByteArray → Bool} {φ : Int → Int} (t : Ty) : okT isName t → ∀ met : List Int, (∀ a b, (a ∈ met ∨ isVar t a) → (b ∈ met ∨ isVar t b) → φ a = φ b → a = b) → vars (met.map φ) (subst (fun n => var (φ n)) t) = (vars met t).map φ := by
  refine Ty.ind (P := fun t => okT isName t → ∀ met : List Int, (∀ a b, (a ∈ met ∨ isVar t a) → (b ∈ met ∨ isVar t b) → φ a = φ b → a = b) → vars (met.map φ) (subst (fun n => var (φ n)) t) = (vars met t).map φ) (fun t ih => ?_) t
  intro ho met hinj
  by_cases hk : t.kind = 1
  · rw [subst_var hk, vars_eq, vars_eq met, if_pos hk, if_pos (show (var (φ t.num)).kind = 1 from rfl)]
    have e : ((met.map φ).contains (var (φ t.num)).num) = met.contains t.num := by
      rw [Bool.eq_iff_iff]
      simp only [List.contains_iff_mem, List.mem_map]
      constructor
      · rintro ⟨a, ha, he⟩
        have := hinj a t.num (.inl ha) (.inr ((isVar_var ho hk).2 rfl)) he
        exact this ▸ ha
      · intro h
        exact ⟨_, h, rfl⟩
    rw [e]
    split
    · rfl
    · rw [List.map_append]; rfl
  · rw [subst_con hk, vars_eq, vars_eq met, if_neg hk, if_neg (show (mk t.kind t.num t.name _).kind ≠ 1 from hk)]
    show (t.args.map (subst fun n => var (φ n))).foldl vars (met.map φ) = _
    have key : ∀ as : List Ty, (∀ x ∈ as, x ∈ t.args) → ∀ met : List Int, (∀ a b, (a ∈ met ∨ isVar t a) → (b ∈ met ∨ isVar t b) → φ a = φ b → a = b) → (as.map (subst fun n => var (φ n))).foldl vars (met.map φ) = (as.foldl vars met).map φ := by
      intro as
      induction as with
      | nil => intro _ met _; rfl
      | cons a as ih2 =>
        intro hs met hm
        have ha : a ∈ t.args := hs a (by simp)
        have hlift : ∀ {b}, (b ∈ met ∨ isVar a b) → (b ∈ met ∨ isVar t b) := fun h => h.imp id (isVar_arg ha)
        rw [List.map_cons, List.foldl_cons, List.foldl_cons, ih a ha (ho.arg ha) met (fun x y hx hy => hm x y (hlift hx) (hlift hy))]
        refine ih2 (fun x hx => hs x (by simp [hx])) _ (fun x y hx hy => hm x y ?_ ?_)
        · exact hx.elim (fun h => hlift ((vars_mem a (ho.arg ha) met x).1 h)) .inr
        · exact hy.elim (fun h => hlift ((vars_mem a (ho.arg ha) met y).1 h)) .inr
    exact key _ (fun _ h => h) met hinj
theorem place_some {l : List Int} {n : Int} (h : n ∈ l) : ∃ i, place l n = some i ∧ i < l.length ∧ l[i]? = some n := by
  unfold place
  cases hf : l.findIdx? (fun x => x == n) with
  | none =>
    rw [List.findIdx?_eq_none_iff] at hf
    have := hf n h
    simp at this
  | some i =>
    rw [List.findIdx?_eq_some_iff_getElem] at hf
    obtain ⟨hi, he, -⟩ := hf
    exact ⟨i, rfl, hi, by rw [List.getElem?_eq_getElem hi]; simpa using he⟩
theorem place_map {l : List Int} {φ : Int → Int} {n : Int} (hinj : ∀ a b, a ∈ l → b ∈ l → φ a = φ b → a = b) (h : n ∈ l) : place (l.map φ) (φ n) = place l n := by
  unfold place
  rw [List.findIdx?_map]
  have key : ∀ m : List Int, (∀ x ∈ m, x ∈ l) → m.findIdx? ((fun x => x == φ n) ∘ φ) = m.findIdx? (fun x => x == n) := by
    intro m
    induction m with
    | nil => intro _; rfl
    | cons a m ih =>
      intro hm
      rw [List.findIdx?_cons, List.findIdx?_cons, ih fun x hx => hm x (by simp [hx])]
      have : ((fun x => x == φ n) ∘ φ) a = (a == n) := by
        rw [Bool.eq_iff_iff]
        simp only [Function.comp_apply, beq_iff_eq]
        exact ⟨fun e => hinj a n (hm a (by simp)) h e, fun e => by rw [e]⟩
      rw [this]
  exact key l fun _ h => h
/-- the number that a variable gets. -/
def numOf (t : Ty) (n : Int) : Int := ((place (vars [] t) n).getD 0 : Nat)
theorem close_eq {isName : ByteArray → Bool} {t : Ty} (ho : okT isName t) : closeF t = subst (fun n => var (numOf t n)) t := by
  unfold closeF renamed
  refine subst_congr t fun p hp hk => ?_
  obtain ⟨i, hi, -⟩ := place_some ((vars_mem t ho [] p.num).2 (.inr ⟨p, hp, hk, rfl⟩))
  unfold numOf
  rw [hi]
  rfl
theorem numOf_spec {isName : ByteArray → Bool} {t : Ty} (ho : okT isName t) {n : Int} (hn : isVar t n) : ∃ i : Nat, numOf t n = i ∧ place (vars [] t) n = some i ∧ i < (vars [] t).length ∧ (vars [] t)[i]? = some n := by
  obtain ⟨i, hi, hl, hg⟩ := place_some ((vars_mem t ho [] n).2 (.inr hn))
  exact ⟨i, by unfold numOf; rw [hi]; rfl, hi, hl, hg⟩
theorem numOf_inj {isName : ByteArray → Bool} {t : Ty} (ho : okT isName t) {a b : Int} (ha : isVar t a) (hb : isVar t b) (h : numOf t a = numOf t b) : a = b := by
  obtain ⟨i, ei, -, -, gi⟩ := numOf_spec ho ha
  obtain ⟨j, ej, -, -, gj⟩ := numOf_spec ho hb
  have : i = j := by omega
  rw [this, gj] at gi
  simpa using gi.symm
/-- a type with its variables told other names is closed alike. -/
theorem close_rename {isName : ByteArray → Bool} {t : Ty} (ho : okT isName t) {φ : Int → Int} (hinj : ∀ a b, isVar t a → isVar t b → φ a = φ b → a = b) : closeF (subst (fun n => var (φ n)) t) = closeF t := by
  have hv : vars [] (subst (fun n => var (φ n)) t) = (vars [] t).map φ := vars_map t ho [] fun a b ha hb => hinj a b (ha.resolve_left (by simp)) (hb.resolve_left (by simp))
  unfold closeF renamed
  rw [subst_subst, hv]
  refine subst_congr t fun p hp hk => ?_
  have hpv : isVar t p.num := ⟨p, hp, hk, rfl⟩
  have hm := (vars_mem t ho [] p.num).2 (.inr hpv)
  rw [subst_var (show (var (φ p.num)).kind = 1 from rfl)]
  show (match place ((vars [] t).map φ) (φ p.num) with | some i => var i | none => var (φ p.num)) = _
  rw [place_map (fun a b ha hb => hinj a b (((vars_mem t ho [] a).1 ha).resolve_left (by simp)) (((vars_mem t ho [] b).1 hb).resolve_left (by simp))) hm]
  obtain ⟨i, hi, -⟩ := place_some hm
  rw [hi]
theorem vars_len {isName : ByteArray → Bool} (t : Ty) : okT isName t → ∀ met, (vars met t).length ≤ met.length + t.wt := by
  refine Ty.ind (P := fun t => okT isName t → ∀ met, (vars met t).length ≤ met.length + t.wt) (fun t ih => ?_) t
  intro ho met
  rw [vars_eq, wt_eq]
  by_cases hk : t.kind = 1
  · rw [if_pos hk]
    split
    · omega
    · rw [List.length_append]; simp
  · rw [if_neg hk]
    have key : ∀ as : List Ty, (∀ x ∈ as, ∀ met, (vars met x).length ≤ met.length + x.wt) → ∀ met, (as.foldl vars met).length ≤ met.length + wts as := by
      intro as
      induction as with
      | nil => intro _ met; simp [wts]
      | cons a as ih2 =>
        intro h met
        rw [List.foldl_cons, wts]
        have := ih2 (fun x hx => h x (by simp [hx])) (vars met a)
        have := h a (by simp) met
        omega
    have := key _ (fun x hx => ih x hx (ho.arg hx)) met
    omega
theorem close_ok {isName : ByteArray → Bool} {t : Ty} (h : rightF isName t = true) : rightF isName (closeF t) = true := by
  obtain ⟨ho, hw⟩ := right_ok h
  rw [close_eq ho]
  refine ok_right (subst_ok t ho fun p hp hk => ?_) ?_
  · obtain ⟨i, hi, -, hl, -⟩ := numOf_spec ho ⟨p, hp, hk, rfl⟩
    have := vars_len t ho []
    simp at this
    refine okT_mk (rp_of_var isName ?_ ?_) (by intro x hx; cases hx)
    · rw [hi]; omega
    · rw [hi]; omega
  · rw [subst_wt (σ := fun n => var (numOf t n)) t ho fun p hp hk => ⟨_, rfl⟩]
    exact hw
theorem inst_close {isName : ByteArray → Bool} {t : Ty} (h : rightF isName t = true) : instF isName t (closeF t) = true ∧ instF isName (closeF t) t = true := by
  obtain ⟨ho, hw⟩ := right_ok h
  constructor
  · exact (inst_iff _ _ _).2 ⟨h, close_ok h, _, (close_eq ho).symm⟩
  · refine (inst_iff _ _ _).2 ⟨close_ok h, h, fun i => var ((vars [] t)[i.toNat]?.getD 0), ?_⟩
    rw [close_eq ho, subst_subst]
    refine subst_self ho fun p hp hk => ?_
    obtain ⟨i, hi, -, hl, hg⟩ := numOf_spec ho ⟨p, hp, hk, rfl⟩
    rw [subst_var (show (var (numOf t p.num)).kind = 1 from rfl)]
    show var ((vars [] t)[(numOf t p.num).toNat]?.getD 0) = _
    rw [hi, Int.toNat_natCast, hg]
    rfl
theorem subst_kind {σ : Int → Ty} {t : Ty} (h : (subst σ t).kind = 1) : t.kind = 1 := by
  by_cases hk : t.kind = 1
  · exact hk
  · rw [subst_con hk] at h
    exact h
/-- closed alike: just if each is an instance of the other one. -/
theorem close_same {isName : ByteArray → Bool} {a b : Ty} (ha : rightF isName a = true) (hb : rightF isName b = true) : closeF a = closeF b ↔ instF isName a b = true ∧ instF isName b a = true := by
  constructor
  · intro h
    have h1 := inst_close ha
    have h2 := inst_close hb
    rw [h] at h1
    exact ⟨inst_trans h1.1 h2.2, inst_trans h2.1 h1.2⟩
  · rintro ⟨h1, h2⟩
    obtain ⟨-, -, σ, hσ⟩ := (inst_iff _ _ _).1 h1
    obtain ⟨-, -, τ, hτ⟩ := (inst_iff _ _ _).1 h2
    obtain ⟨oa, -⟩ := right_ok ha
    obtain ⟨ob, -⟩ := right_ok hb
    have hback : ∀ p ∈ parts a, p.kind = 1 → subst τ (σ p.num) = p := by
      have e : subst (fun n => subst τ (σ n)) a = a := by rw [← subst_subst, hσ, hτ]
      have key : ∀ t : Ty, okT isName t → subst (fun n => subst τ (σ n)) t = t → ∀ p ∈ parts t, p.kind = 1 → subst τ (σ p.num) = p := by
        intro t
        refine Ty.ind (P := fun t => okT isName t → subst (fun n => subst τ (σ n)) t = t → ∀ p ∈ parts t, p.kind = 1 → subst τ (σ p.num) = p) (fun t ih => ?_) t
        intro ho he p hp hk1
        by_cases hk : t.kind = 1
        · rw [var_parts ho hk hp, ← subst_var (σ := fun n => subst τ (σ n)) hk]
          exact he
        · rw [subst_con hk] at he
          rw [parts_eq, partss_eq] at hp
          rcases List.mem_cons.1 hp with rfl | hp
          · exact absurd hk1 hk
          · obtain ⟨y, hy, hpy⟩ := List.mem_flatMap.1 hp
            refine ih y hy (ho.arg hy) ?_ p hpy hk1
            have he2 : t.args.map (subst fun n => subst τ (σ n)) = t.args := congrArg Ty.args he
            obtain ⟨i, hi, rfl⟩ := List.getElem_of_mem hy
            have := congrArg (fun l => l[i]?) he2
            simpa [hi] using this
      exact key a oa e
    have hvar : ∀ p ∈ parts a, p.kind = 1 → ∃ m, σ p.num = var m ∧ τ m = p := by
      intro p hp hk
      have hb1 := hback p hp hk
      have hk2 : (σ p.num).kind = 1 := subst_kind (σ := τ) (by rw [hb1]; exact hk)
      have hpb : σ p.num ∈ parts b := by rw [← hσ]; exact subst_part a oa hp hk
      refine ⟨(σ p.num).num, (rp_var (ob _ hpb) hk2).1, ?_⟩
      rw [← subst_var (σ := τ) hk2]
      exact hb1
    have hb' : b = subst (fun n => var (σ n).num) a := by
      rw [← hσ]
      refine subst_congr a fun p hp hk => ?_
      obtain ⟨m, hm, -⟩ := hvar p hp hk
      rw [hm]; rfl
    rw [hb']
    refine (close_rename oa ?_).symm
    rintro x y ⟨p, hp, hk, rfl⟩ ⟨q, hq, hkq, rfl⟩ he
    obtain ⟨m, hm, e1⟩ := hvar p hp hk
    obtain ⟨m', hm', e2⟩ := hvar q hq hkq
    rw [hm, hm'] at he
    have he : m = m' := he
    rw [← e1, ← e2, he]
/-- a closed type's variables are those below their number. -/
theorem vars_close {isName : ByteArray → Bool} {t : Ty} (h : rightF isName t = true) : vars [] (closeF t) = (List.range (vars [] t).length).map (fun i : Nat => (i : Int)) := by
  obtain ⟨ho, hw⟩ := right_ok h
  have hm : vars [] (closeF t) = (vars [] t).map (numOf t) := by
    rw [close_eq ho]
    exact vars_map t ho [] fun a b ha hb => numOf_inj ho (ha.resolve_left (by simp)) (hb.resolve_left (by simp))
  rw [hm]
  refine List.ext_getElem (by simp) fun i h1 h2 => ?_
  simp only [List.getElem_map, List.getElem_range]
  have hi : i < (vars [] t).length := by simpa using h1
  have hv : isVar t (vars [] t)[i] := ((vars_mem t ho [] _).1 (List.getElem_mem hi)).resolve_left (by simp)
  obtain ⟨j, hj, -, hl, hg⟩ := numOf_spec ho hv
  rw [hj]
  have hnd := vars_nodup t ho [] (by simp)
  rw [List.getElem?_eq_getElem hl, Option.some.injEq] at hg
  have := (List.getElem_inj hnd).1 hg
  omega
theorem close_close {isName : ByteArray → Bool} {t : Ty} (h : rightF isName t = true) : closeF (closeF t) = closeF t := by
  have h1 := inst_close h
  exact ((close_same h (close_ok h)).2 h1).symm
end Tp
end Go.Proofs.YtmpmibebkflaiaaGreatDoor
namespace Go.Proofs.YtmpmibebkflaiaaGreatDoor
namespace Tp
open Ty
mutual
/-- how many parts a type has; above most: more. -/
def weightF (most : Int) : Ty → Int
  | .mk _ _ s as => weightL most (1 + (s.size / 16 : Nat)) as
def weightL (most n : Int) : List Ty → Int
  | [] => n
  | t :: ts => if n ≤ most then weightL most (n + weightF (most - n) t) ts else n
end
theorem weightF_eq (most : Int) (t : Ty) : weightF most t = weightL most (1 + (t.name.size / 16 : Nat)) t.args := by cases t; rw [weightF]; rfl
theorem weightL_stop {most n : Int} (h : most < n) (l : List Ty) : weightL most n l = n := by
  cases l with
  | nil => rw [weightL]
  | cons t ts => rw [weightL, if_neg (by omega)]
theorem weightL_go {most n : Int} (h : n ≤ most) (t : Ty) (ts : List Ty) : weightL most n (t :: ts) = weightL most (n + weightF (most - n) t) ts := by rw [weightL, if_pos h]
/-- all names and lists of a type are within what a machine holds. -/
def fit (t : Ty) : Prop := ∀ p ∈ parts t, p.name.size ≤ 140737488351232 ∧ p.args.length ≤ 2513169434843
theorem fit.arg {t x : Ty} (h : fit t) (hx : x ∈ t.args) : fit x := fun p hp => h p (parts_mem hx hp)
theorem fit.self {t : Ty} (h : fit t) : t.name.size ≤ 140737488351232 ∧ t.args.length ≤ 2513169434843 := h t (parts_self t)
theorem fit_var (n : Int) : fit (var n) := by
  intro p hp
  have : p = var n := by simpa [parts_eq, partss_eq, var, args] using hp
  subst this
  exact ⟨Nat.zero_le _, Nat.zero_le _⟩
theorem weight_le (t : Ty) : fit t → ∀ most : Int, 0 ≤ most → 1 ≤ weightF most t ∧ weightF most t ≤ most + 8796093022000 := by
  refine Ty.ind (P := fun t => fit t → ∀ most : Int, 0 ≤ most → 1 ≤ weightF most t ∧ weightF most t ≤ most + 8796093022000) (fun t ih => ?_) t
  intro hf most h0
  rw [weightF_eq]
  have key : ∀ as : List Ty, (∀ x ∈ as, ∀ most : Int, 0 ≤ most → 1 ≤ weightF most x ∧ weightF most x ≤ most + 8796093022000) → ∀ n : Int, 1 ≤ n → n ≤ most + 8796093022000 → 1 ≤ weightL most n as ∧ weightL most n as ≤ most + 8796093022000 := by
    intro as
    induction as with
    | nil => intro _ n h1 h2; rw [weightL]; exact ⟨h1, h2⟩
    | cons a as ih2 =>
      intro h n h1 h2
      by_cases hn : n ≤ most
      · rw [weightL_go hn]
        obtain ⟨h3, h4⟩ := h a (by simp) (most - n) (by omega)
        exact ih2 (fun x hx => h x (by simp [hx])) _ (by omega) (by omega)
      · rw [weightL_stop (by omega)]
        exact ⟨h1, h2⟩
  have := hf.self.1
  exact key _ (fun x hx => ih x hx (hf.arg hx)) _ (by omega) (by omega)
theorem weightL_ge (l : List Ty) : (∀ x ∈ l, fit x) → ∀ most n : Int, n ≤ weightL most n l := by
  induction l with
  | nil => intro _ most n; rw [weightL]; exact Int.le_refl _
  | cons a as ih =>
    intro h most n
    by_cases hn : n ≤ most
    · rw [weightL_go hn]
      have := ih (fun x hx => h x (by simp [hx])) most (n + weightF (most - n) a)
      have := weight_le a (h a (by simp)) (most - n) (by omega)
      omega
    · rw [weightL_stop (by omega)]
      exact Int.le_refl _
/-- what isn't more than most is told to its end. -/
theorem weight_full (t : Ty) : fit t → ∀ most : Int, 0 ≤ most → weightF most t ≤ most → (t.wt : Int) ≤ weightF most t ∧ ∀ p ∈ parts t, (p.name.size : Int) < 16 * weightF most t := by
  refine Ty.ind (P := fun t => fit t → ∀ most : Int, 0 ≤ most → weightF most t ≤ most → (t.wt : Int) ≤ weightF most t ∧ ∀ p ∈ parts t, (p.name.size : Int) < 16 * weightF most t) (fun t ih => ?_) t
  intro hf most h0 hm
  rw [weightF_eq] at hm ⊢
  have key : ∀ as : List Ty, (∀ x ∈ as, fit x ∧ ∀ most : Int, 0 ≤ most → weightF most x ≤ most → (x.wt : Int) ≤ weightF most x ∧ ∀ p ∈ parts x, (p.name.size : Int) < 16 * weightF most x) → ∀ n : Int, 0 ≤ n → weightL most n as ≤ most → n + (wts as : Int) ≤ weightL most n as ∧ ∀ x ∈ as, ∀ p ∈ parts x, (p.name.size : Int) < 16 * weightL most n as := by
    intro as
    induction as with
    | nil => intro _ n _ _; rw [weightL, wts]; exact ⟨by omega, by simp⟩
    | cons a as ih2 =>
      intro h n h1 h2
      have hf2 : ∀ x ∈ as, fit x := fun x hx => (h x (by simp [hx])).1
      by_cases hn : n ≤ most
      · rw [weightL_go hn] at h2 ⊢
        have g1 := weightL_ge as hf2 most (n + weightF (most - n) a)
        have g0 := weight_le a (h a (by simp)).1 (most - n) (by omega)
        obtain ⟨a1, a2⟩ := (h a (by simp)).2 (most - n) (by omega) (by omega)
        obtain ⟨b1, b2⟩ := ih2 (fun x hx => h x (by simp [hx])) _ (by omega) h2
        refine ⟨by rw [wts]; omega, fun x hx p hp => ?_⟩
        rcases List.mem_cons.1 hx with rfl | hx
        · have := a2 p hp
          omega
        · exact b2 x hx p hp
      · rw [weightL_stop (by omega)] at h2
        exact absurd h2 hn
  obtain ⟨k1, k2⟩ := key _ (fun x hx => ⟨hf.arg hx, ih x hx (hf.arg hx)⟩) _ (by omega) hm
  refine ⟨by rw [wt_eq]; omega, fun p hp => ?_⟩
  rw [parts_eq, partss_eq] at hp
  rcases List.mem_cons.1 hp with rfl | hp
  · omega
  · obtain ⟨y, hy, hpy⟩ := List.mem_flatMap.1 hp
    exact k2 y hy p hpy
/-- is a type more than is looked at? -/
def greatF (t : Ty) : Bool := decide (1000 < weightF 1000 t)
theorem small_of {t : Ty} (hf : fit t) (h : greatF t = false) : t.wt ≤ 1000 ∧ ∀ p ∈ parts t, p.name.size ≤ 16000 ∧ p.args.length ≤ 1000 := by
  unfold greatF at h
  rw [decide_eq_false_iff_not] at h
  obtain ⟨h1, h2⟩ := weight_full t hf 1000 (by omega) (by omega)
  refine ⟨by omega, fun p hp => ⟨by have := h2 p hp; omega, ?_⟩⟩
  have key : ∀ t : Ty, ∀ p ∈ parts t, p.wt ≤ t.wt := fun t => Ty.ind (P := fun t => ∀ p ∈ parts t, p.wt ≤ t.wt) (fun t ih p hp => by
    rw [parts_eq, partss_eq] at hp
    rcases List.mem_cons.1 hp with rfl | hp
    · exact Nat.le_refl _
    · obtain ⟨y, hy, hpy⟩ := List.mem_flatMap.1 hp
      have := ih y hy p hpy
      have := wt_lt hy
      omega) t
  have k1 := key t p hp
  have k2 : ∀ l : List Ty, l.length ≤ wts l := fun l => by
    induction l with
    | nil => exact Nat.zero_le _
    | cons a l ih => rw [wts, List.length_cons]; have := wt_eq a; omega
  have := k2 p.args
  have := wt_eq p
  omega
end Tp
end Go.Proofs.YtmpmibebkflaiaaGreatDoor
