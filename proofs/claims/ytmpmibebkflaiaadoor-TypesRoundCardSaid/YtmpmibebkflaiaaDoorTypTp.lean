/- A right type's text is read as that type. -/
import Derived.Test.YtmpmibebkflaiaaDoorTypTo
namespace Go.Proofs.YtmpmibebkflaiaaDoor
open Go.RowKit Go.Lib Tp
set_option maxRecDepth 100000
set_option linter.unusedVariables false
set_option linter.unusedSectionVars false
namespace To
/-! ### words one behind another -/
theorem end_of (c : UInt8) (h : c = 32 ∨ c = 41 ∨ c = 44) (r : List UInt8) : End (c :: r) := .inr ⟨c, r, rfl, h⟩
/-- whatever may end a word may stand behind these. -/
def Follow (l : List It) : Prop := ∀ rest, OkIts rest → End (flat rest) → OkIts (l ++ rest)
theorem Follow.app {l m : List It} (hl : Follow l) (hm : Follow m) (he : ∀ rest, End (flat rest) → End (flat (m ++ rest))) : Follow (l ++ m) := fun rest h1 h2 => by
  rw [List.append_assoc]
  exact hl _ (hm rest h1 h2) (he rest h2)
/-- the first word, with this blank ahead of it, opens no remark behind a bracket. -/
def Fst (g : List UInt8) (l : List It) : Prop := ∃ x r, l = x :: r ∧ x.g = g ∧ ∃ c u, x.w = c :: u ∧ c ≠ 42
theorem Fst.app {g : List UInt8} {l : List It} (h : Fst g l) (m : List It) : Fst g (l ++ m) := by
  obtain ⟨x, r, rfl, hg, hx⟩ := h
  exact ⟨x, r ++ m, rfl, hg, hx⟩
theorem flat_fst {l : List It} (h : Fst [32] l) (rest : List It) : End (flat (l ++ rest)) := by
  obtain ⟨x, r, rfl, hg, -⟩ := h
  rw [List.cons_append, flat_cons, hg]
  exact end_of 32 (.inl rfl) _
/-- signs. -/
theorem sign_ok {g : List UInt8} (hg : g = [] ∨ g = [32]) {c : UInt8} (hc : c = 41 ∨ c = 44 ∨ c = 42) (r : List UInt8) : OkIt ⟨g, 6, [c]⟩ r := by
  refine ⟨hg, ⟨c, [], rfl, by rcases hc with rfl | rfl | rfl <;> decide⟩, ?_, ?_⟩
  · cases r with
    | nil => rfl
    | cons d u => rcases hc with rfl | rfl | rfl <;> simp [Lx.opens]
  · show Lx.tokF (c :: r) = _
    rw [tokF_cons]
    rcases hc with rfl | rfl | rfl
    all_goals
      rw [if_neg (by decide), if_neg (by decide), if_neg (by decide), if_neg (by cases r <;> simp [Lx.isTick])]
      cases r with
      | nil =>
        show _ = ((6 : Nat), (1 : Nat))
        decide
      | cons d u =>
        have : ∀ e : UInt8, e = 41 ∨ e = 44 ∨ e = 42 → Lx.signN (e :: d :: u) = 1 := fun e he => by
          rcases he with rfl | rfl | rfl <;> simp [Lx.signN, Lx.twoSign, Lx.ones]
        rw [this _ (by simp)]
        rfl
theorem open_ok {g : List UInt8} (hg : g = [] ∨ g = [32]) {r : List UInt8} (hr : ∀ d u, r = d :: u → d ≠ 42) : OkIt ⟨g, 6, [40]⟩ r := by
  refine ⟨hg, ⟨40, [], rfl, by decide⟩, ?_, ?_⟩
  · cases r with
    | nil => rfl
    | cons d u =>
      have := hr d u rfl
      simp only [List.singleton_append, Lx.opens, decide_eq_false_iff_not]
      rintro ⟨-, h⟩
      exact this (UInt8.toNat_inj.1 h)
  · show Lx.tokF (40 :: r) = _
    rw [tokF_cons, if_neg (by decide), if_neg (by decide), if_neg (by decide), if_neg (by cases r <;> simp [Lx.isTick])]
    cases r with
    | nil =>
      show _ = ((6 : Nat), (1 : Nat))
      decide
    | cons d u =>
      have : Lx.signN (40 :: d :: u) = 1 := by simp [Lx.signN, Lx.twoSign, Lx.ones]
      rw [this]
      rfl
theorem arrow_ok (r : List UInt8) : OkIt ⟨[32], 6, [45, 62]⟩ r := by
  refine ⟨.inr rfl, ⟨45, [62], rfl, by decide⟩, ?_, ?_⟩
  · simp [Lx.opens]
  · show Lx.tokF (45 :: 62 :: r) = _
    rw [tokF_cons, if_neg (by decide), if_neg (by decide), if_neg (by decide), if_neg (by simp [Lx.isTick])]
    have : Lx.signN (45 :: 62 :: r) = 2 := by simp [Lx.signN, Lx.twoSign]
    rw [this]
    rfl
theorem name_ok {g nm r : List UInt8} (hg : g = [] ∨ g = [32]) (h : kindF nm = 1) (hr : End r) : OkIt ⟨g, 1, nm⟩ r := by
  obtain ⟨⟨c, t, hc, hs⟩, ht⟩ := name_tok h hr
  refine ⟨hg, ⟨c, t, hc, ?_⟩, ?_, ht⟩
  · unfold Lx.isSmall at hs
    unfold Lx.isWhite
    simp only [decide_eq_true_eq] at hs
    rw [decide_eq_false_iff_not]
    omega
  · show Lx.opens (nm ++ r) = false
    rw [hc]
    unfold Lx.isSmall at hs
    simp only [decide_eq_true_eq] at hs
    cases hl : (c :: t) ++ r with
    | nil => rfl
    | cons a u =>
      rw [List.cons_append] at hl
      obtain ⟨rfl, -⟩ := List.cons.inj hl
      cases u with
      | nil => rfl
      | cons b u =>
        simp only [Lx.opens, decide_eq_false_iff_not]
        omega
theorem var_ok {g r : List UInt8} {n : Int} (hg : g = [] ∨ g = [32]) (h0 : 0 ≤ n) (hr : End r) : OkIt ⟨g, 4, varB n⟩ r := by
  obtain ⟨⟨t, hc⟩, ht⟩ := var_tok h0 hr
  refine ⟨hg, ⟨39, t, hc, by decide⟩, ?_, ht⟩
  show Lx.opens (varB n ++ r) = false
  rw [hc]
  have : ∀ q : List UInt8, Lx.opens (39 :: q) = false := fun q => by cases q <;> simp [Lx.opens]
  exact this (t ++ r)
/-! ### what is read -/
def NoW (z : List UInt8) (rest : List It) : Prop := ∀ x, rest.head? = some x → x.w ≠ z
def NoName (rest : List It) : Prop := ∀ x, rest.head? = some x → x.k ≠ 1
section
variable {S : ByteArray} {A : List It} (h : TF S A)
include h
theorem no_name {l rest : List It} {i : Nat} (hd : A.drop i = l ++ rest) (hn : NoName rest) : (hereT (tokT S) (i + l.length)).kind ≠ 1 := by
  have hr := rest_get hd
  cases hx : A[i + l.length]? with
  | none => rw [h.off hx]; decide
  | some x => rw [(h.at hx).1]; exact hn x (by rw [← hr, hx])
theorem no_word {z : List UInt8} {l rest : List It} {i : Nat} (hd : A.drop i = l ++ rest) (hn : NoW z rest) : isT S ⟨⟨z⟩⟩ (hereT (tokT S) (i + l.length)) = false :=
  h.no fun x hx => hn x (by rw [← rest_get hd, hx])
end
/-- a type, but for arrows and pairs: its head, and the names behind it. -/
def NamesP (t : Ty) (l : List It) (lo : Nat) : Prop := ∀ S A, TF S A → ∀ i rest, A.drop i = l ++ rest → ∀ k, lo ≤ k → ∃ t0 i0, HeadR (WholeR S (tokT S) k) S (tokT S) i false t0 i0 false ∧ NamesTo S (tokT S) t0 i0 t (i + l.length)
/-- a type's left part: pieces with "*" between. -/
def LeftP (t : Ty) (l : List It) : Prop := ∀ S A, TF S A → ∀ i rest, A.drop i = l ++ rest → NoName rest → NoW [42] rest → ∀ k, t.wt ≤ k + 1 →
  ∃ x i1 ls, NamedR (WholeR S (tokT S) k) S (tokT S) i false x i1 false ∧ SepTo (NamedR (WholeR S (tokT S) k) S (tokT S)) S ⟨#[42]⟩ (tokT S) i1 false ls (i + l.length) false ∧ leftT x ls = t
def WholeP (t : Ty) (l : List It) : Prop := ∀ S A, TF S A → ∀ i rest, A.drop i = l ++ rest → NoName rest → NoW [42] rest → NoW [45, 62] rest → ∀ k, t.wt ≤ k → WholeR S (tokT S) k i false t (i + l.length) false
theorem NamesP.named {t : Ty} {l : List It} {lo : Nat} (h : NamesP t l lo) {S : ByteArray} {A : List It} (hT : TF S A) {i : Nat} {rest : List It} (hd : A.drop i = l ++ rest) (hn : NoName rest) {k : Nat} (hk : lo ≤ k) : NamedR (WholeR S (tokT S) k) S (tokT S) i false t (i + l.length) false := by
  obtain ⟨t0, i0, h1, h2⟩ := h S A hT i rest hd k hk
  exact ⟨t0, i0, h1, h2, no_name hT hd hn⟩
theorem NamesP.left {t : Ty} {l : List It} (h : NamesP t l (t.wt - 1)) : LeftP t l := fun S A hT i rest hd hn hs k hk =>
  ⟨t, i + l.length, [], h.named hT hd hn (by omega), .nil _ _, rfl⟩
theorem LeftP.whole {t : Ty} {l : List It} (h : LeftP t l) : WholeP t l := fun S A hT i rest hd hn hs ha k hk => by
  have hw := Ty.wt_eq t
  obtain ⟨m, rfl⟩ : ∃ m, k = m + 1 := ⟨k - 1, by omega⟩
  obtain ⟨x, i1, ls, h1, h2, h3⟩ := h S A hT i rest hd hn hs m hk
  rw [WholeR]
  dsimp only
  rw [if_neg (by decide)]
  refine ⟨x, i1, false, ls, i + l.length, false, h1, h2, no_word hT hd hs, ?_⟩
  rw [if_neg (by rw [show (⟨#[45, 62]⟩ : ByteArray) = ⟨⟨[45, 62]⟩⟩ from rfl, no_word hT hd ha]; decide)]
  exact ⟨h3.symm, rfl, rfl⟩
/-- in brackets. -/
def brk (g : List UInt8) (l : List It) : List It := ⟨g, 6, [40]⟩ :: (l ++ [⟨[], 6, [41]⟩])
theorem flat_brk (g : List UInt8) (l : List It) : flat (brk g l) = g ++ ([40] ++ flat l ++ [41]) := by simp [brk, flat_cons, flat_append, flat_nil]
theorem brk_fst (g : List UInt8) (l : List It) : Fst g (brk g l) := ⟨_, _, rfl, rfl, 40, [], rfl, by decide⟩
theorem fst_ne {l : List It} (h : Fst [] l) (r : List It) : ∀ d u, flat (l ++ r) = d :: u → d ≠ 42 := by
  obtain ⟨x, q, rfl, hg, c, u, hx, hc⟩ := h
  intro d v hd
  rw [List.cons_append, flat_cons, hg, hx] at hd
  simp at hd
  rw [← hd.1]
  exact hc
theorem brk_follow {g : List UInt8} (hg : g = [] ∨ g = [32]) {l : List It} (hl : Follow l) (hf : Fst [] l) : Follow (brk g l) := fun rest h1 h2 => by
  have h3 : OkIts (⟨[], 6, [41]⟩ :: rest) := ⟨sign_ok (.inl rfl) (.inl rfl) _, h1⟩
  have h4 : OkIts (l ++ (⟨[], 6, [41]⟩ :: rest)) := hl _ h3 (by rw [flat_cons]; exact end_of 41 (.inr (.inl rfl)) _)
  unfold brk
  rw [List.cons_append, List.append_assoc, List.singleton_append]
  exact ⟨open_ok hg (fst_ne hf _), h4⟩
theorem brk_names {t : Ty} {g : List UInt8} {l : List It} (h : WholeP t l) : NamesP t (brk g l) t.wt := fun S A hT i rest hd k hk => by
  unfold brk at hd ⊢
  rw [List.cons_append, List.append_assoc, List.singleton_append] at hd
  have h0 := head_get0 hd
  have hd1 : A.drop (i + 1) = l ++ (⟨[], 6, [41]⟩ :: rest) := drop_next (l := [_]) hd
  have h1 := h S A hT (i + 1) _ hd1 (by intro x hx; simp at hx; subst hx; decide) (by intro x hx; simp at hx; subst hx; decide) (by intro x hx; simp at hx; subst hx; decide) k hk
  have hc := head_get hd1
  refine ⟨t, i + 1 + l.length + 1, ?_, ?_⟩
  · unfold HeadR
    rw [(hT.at h0).1, if_neg (show ¬ (6 : Nat) = 4 by decide), if_neg (show ¬ (6 : Nat) = 1 by decide), if_pos (hT.yes h0 rfl rfl)]
    refine ⟨t, i + 1 + l.length, false, [], i + 1 + l.length, false, h1, .nil _ _, ?_, ?_⟩
    · exact hT.no (z := [44]) fun x hx => by rw [hc] at hx; obtain rfl := Option.some.inj hx; decide
    · rw [if_pos rfl]
      unfold endR
      rw [if_pos (hT.yes hc rfl rfl)]
      exact ⟨rfl, rfl, rfl⟩
  · have : i + (({ g := g, k := 6, w := [40] } : It) :: (l ++ [⟨[], 6, [41]⟩])).length = i + 1 + l.length + 1 := by simp; omega
    rw [this]
    exact .nil _ _
end To
end Go.Proofs.YtmpmibebkflaiaaDoor
