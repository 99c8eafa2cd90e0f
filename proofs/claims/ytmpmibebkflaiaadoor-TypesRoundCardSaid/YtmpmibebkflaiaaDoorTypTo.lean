/- The tokens of a type's text. -/
import Derived.Test.YtmpmibebkflaiaaDoorTypRn
namespace Go.Proofs.YtmpmibebkflaiaaDoor
open Go.RowKit Go.Lib Tp
set_option maxRecDepth 100000
set_option linter.unusedVariables false
set_option linter.unusedSectionVars false

namespace To
/-- a word, the blank ahead of it, its kind. -/
structure It where
  g : List UInt8
  k : Nat
  w : List UInt8
def flat (A : List It) : List UInt8 := A.flatMap fun x => x.g ++ x.w
theorem flat_nil : flat [] = [] := rfl
theorem flat_cons (x : It) (A : List It) : flat (x :: A) = x.g ++ (x.w ++ flat A) := by simp [flat]
theorem flat_append (A B : List It) : flat (A ++ B) = flat A ++ flat B := by simp [flat]
def OkIt (x : It) (r : List UInt8) : Prop := (x.g = [] ∨ x.g = [32]) ∧ (∃ c t, x.w = c :: t ∧ Lx.isWhite c = false) ∧ Lx.opens (x.w ++ r) = false ∧ Lx.tokF (x.w ++ r) = (x.k, x.w.length)
def OkIts : List It → Prop
  | [] => True
  | x :: r => OkIt x (flat r) ∧ OkIts r
def toks (p : Nat) : List It → List Lx.Tok
  | [] => []
  | x :: r => ⟨x.k, p + x.g.length, p + x.g.length + x.w.length⟩ :: toks (p + x.g.length + x.w.length) r
theorem toks_len : ∀ (A : List It) (p : Nat), (toks p A).length = A.length
  | [], _ => rfl
  | x :: A, p => by rw [toks, List.length_cons, toks_len A, List.length_cons]
theorem lex_word {l : List UInt8} {p : Nat} {x : It} {r : List UInt8} (h : l.drop p = x.w ++ r) (hk : OkIt x r) : Lx.lexAt l p = ⟨x.k, p, p + x.w.length⟩ :: Lx.lexAt l (p + x.w.length) := by
  obtain ⟨-, ⟨c, t, hw, hc⟩, ho, ht⟩ := hk
  have hp : p < l.length := by
    refine Classical.byContradiction fun hn => ?_
    rw [List.drop_eq_nil_of_le (by omega), hw] at h
    simp at h
  have hd := Lx.drop_cons l p hp
  have hlc : l[p] = c := by
    rw [h, hw, List.cons_append] at hd
    exact (List.cons.inj hd).1.symm
  have := Lx.at_tok l p hp (by rw [hlc]; exact hc) (by rw [h]; exact ho)
  rw [h, ht] at this
  exact this
theorem lex_its (l : List UInt8) : ∀ (A : List It) (p : Nat), l.drop p = flat A → OkIts A → Lx.lexAt l p = toks p A
  | [], p, h, _ => Lx.at_end l p (by rw [flat_nil, List.drop_eq_nil_iff] at h; exact h)
  | x :: A, p, h, hk => by
    obtain ⟨hx, hA⟩ := hk
    rw [flat_cons] at h
    have hn : ∀ q, l.drop q = x.w ++ flat A → l.drop (q + x.w.length) = flat A := fun q hq => by
      rw [← List.drop_drop, hq, List.drop_left]
    rcases hx.1 with hg | hg
    · rw [hg, List.nil_append] at h
      rw [lex_word h hx, lex_its l A _ (hn p h) hA, toks, hg]
      simp
    · rw [hg] at h
      have hp : p < l.length := by
        refine Classical.byContradiction fun hn => ?_
        rw [List.drop_eq_nil_of_le (by omega)] at h
        simp at h
      have hd := Lx.drop_cons l p hp
      rw [h, List.singleton_append] at hd
      obtain ⟨hd1, hd2⟩ := List.cons.inj hd
      have hw := Lx.at_white l p hp (by rw [← hd1]; decide)
      rw [hw, lex_word hd2.symm hx, lex_its l A _ (hn _ hd2.symm) hA, toks, hg]
      simp
theorem toks_get (l : List UInt8) : ∀ (A : List It) (p i : Nat) (x : It), l.drop p = flat A → A[i]? = some x → ∃ a, (toks p A)[i]? = some ⟨x.k, a, a + x.w.length⟩ ∧ (l.drop a).take x.w.length = x.w
  | [], p, i, x, _, h => by simp at h
  | y :: A, p, 0, x, hl, h => by
    simp at h
    subst h
    refine ⟨p + y.g.length, by simp [toks], ?_⟩
    rw [← List.drop_drop, hl, flat_cons, List.drop_left, List.take_left]
  | y :: A, p, i + 1, x, hl, h => by
    have hn : l.drop (p + y.g.length + y.w.length) = flat A := by
      rw [← List.drop_drop, ← List.drop_drop, hl, flat_cons, List.drop_left, List.drop_left]
    obtain ⟨a, h1, h2⟩ := toks_get l A (p + y.g.length + y.w.length) i x hn (by simpa using h)
    exact ⟨a, by rw [toks, List.getElem?_cons_succ]; exact h1, h2⟩
/-- a text, told as words. -/
def TF (S : ByteArray) (A : List It) : Prop := S.data.toList = flat A ∧ OkIts A
section
variable {S : ByteArray} {A : List It}
theorem TF.toks (h : TF S A) : tokT S = To.toks 0 A := by
  unfold tokT
  rw [Lx.lexF_at]
  exact lex_its _ A 0 (by rw [List.drop_zero]; exact h.1) h.2
theorem TF.at (h : TF S A) {i : Nat} {x : It} (hx : A[i]? = some x) : (hereT (tokT S) i).kind = x.k ∧ (wordT S (tokT S) i).data.toList = x.w := by
  obtain ⟨a, h1, h2⟩ := toks_get S.data.toList A 0 i x (by rw [List.drop_zero]; exact h.1) hx
  rw [← h.toks] at h1
  constructor
  · unfold hereT
    rw [h1]
    rfl
  · rw [wordT_list S i h1]
    show (S.data.toList.drop a).take (a + x.w.length - a) = _
    rw [Nat.add_sub_cancel_left, h2]
theorem TF.off (h : TF S A) {i : Nat} (hx : A[i]? = none) : (hereT (tokT S) i).kind = 0 := by
  unfold hereT
  rw [h.toks, List.getElem?_eq_none (by rw [toks_len]; exact List.getElem?_eq_none_iff.1 hx)]
  rfl
theorem ba_ext {a b : ByteArray} (h : a.data.toList = b.data.toList) : a = b := by
  obtain ⟨⟨a⟩⟩ := a
  obtain ⟨⟨b⟩⟩ := b
  simp at h
  rw [h]
theorem TF.word (h : TF S A) {i : Nat} {x : It} (hx : A[i]? = some x) {nm : ByteArray} (hn : x.w = nm.data.toList) : wordT S (tokT S) i = nm := ba_ext ((h.at hx).2.trans hn)
theorem TF.yes (h : TF S A) {i : Nat} {x : It} (hx : A[i]? = some x) (hk : x.k = 6) {z : List UInt8} (hz : x.w = z) : isT S ⟨⟨z⟩⟩ (hereT (tokT S) i) = true := by
  obtain ⟨h1, h2⟩ := h.at hx
  unfold isT
  rw [h1, hk]
  unfold wordT at h2
  rw [Lib.toList_data, Lib.toList_data, h2, hz]
  simp
theorem TF.no (h : TF S A) {i : Nat} {z : List UInt8} (hx : ∀ x, A[i]? = some x → x.w ≠ z) : isT S ⟨⟨z⟩⟩ (hereT (tokT S) i) = false := by
  cases hA : A[i]? with
  | none =>
    have := h.off hA
    unfold isT
    rw [this]
    rfl
  | some x =>
    obtain ⟨h1, h2⟩ := h.at hA
    unfold isT
    unfold wordT at h2
    rw [Lib.toList_data, Lib.toList_data, h2]
    simp [hx x hA]
end
theorem head_get {A l r : List It} {i : Nat} {x : It} (h : A.drop i = l ++ x :: r) : A[i + l.length]? = some x := by
  have := congrArg (fun q => q[l.length]?) h
  simp only [List.getElem?_drop] at this
  rw [this]
  simp
theorem head_get0 {A r : List It} {i : Nat} {x : It} (h : A.drop i = x :: r) : A[i]? = some x := head_get (l := []) h
theorem rest_get {A l r : List It} {i : Nat} (h : A.drop i = l ++ r) : A[i + l.length]? = r.head? := by
  have := congrArg (fun q => q[l.length]?) h
  simp only [List.getElem?_drop] at this
  rw [this]
  cases r <;> simp
theorem drop_next {A l r : List It} {i : Nat} (h : A.drop i = l ++ r) : A.drop (i + l.length) = r := by
  rw [← List.drop_drop, h, List.drop_left]
/-! ### what may follow -/
/-- what ends a word. -/
def End (r : List UInt8) : Prop := r = [] ∨ ∃ c u, r = c :: u ∧ (c = 32 ∨ c = 41 ∨ c = 44)
theorem end_ch {c : UInt8} (h : c = 32 ∨ c = 41 ∨ c = 44) : Lx.nameCh [39] c = false ∧ Lx.nameCh [] c = false := by
  rcases h with rfl | rfl | rfl <;> exact ⟨by decide, by decide⟩
theorem run_stop {m l r : List UInt8} (hl : ∀ c ∈ l, Lx.nameCh m c = true) (hr : r = [] ∨ ∃ c u, r = c :: u ∧ Lx.nameCh m c = false) : Lx.runN m (l ++ r) = l.length := by
  unfold Lx.runN
  rw [List.takeWhile_append_of_pos hl]
  rcases hr with rfl | ⟨c, u, rfl, hc⟩
  · simp
  · rw [List.takeWhile_cons, if_neg (by rw [hc]; decide)]
    simp
theorem run_all {m l : List UInt8} (h : l.length ≤ Lx.runN m l) : ∀ c ∈ l, Lx.nameCh m c = true := by
  unfold Lx.runN at h
  have h1 := List.takeWhile_prefix (p := Lx.nameCh m) (l := l)
  have h2 := h1.eq_of_length_le h
  intro c hc
  rw [← h2] at hc
  exact List.all_eq_true.1 List.all_takeWhile c hc
theorem tokF_cons (c : UInt8) (t : List UInt8) : Lx.tokF (c :: t) = if (Lx.isSmall c || decide (c.toNat = 95)) = true then (Lx.nameKind ((c :: t).take (Lx.runN [39] (c :: t))), Lx.runN [39] (c :: t))
    else if Lx.isGreat c = true then (2, Lx.runN [39] (c :: t))
    else if Lx.isDigit c = true then (3, Lx.digN t + 1)
    else if Lx.isTick (c :: t) = true then (4, Lx.runN [] t + 1)
    else if 0 < Lx.signN (c :: t) then (6, Lx.signN (c :: t))
    else (7, Lx.errN t + 1) := rfl
/-- a name, and what ends it. -/
theorem name_tok {nm r : List UInt8} (h : kindF nm = 1) (hr : End r) : (∃ c t, nm = c :: t ∧ (Lx.isSmall c = true ∨ c.toNat = 95)) ∧ Lx.tokF (nm ++ r) = (1, nm.length) := by
  unfold kindF at h
  split at h
  · omega
  rename_i h0
  split at h
  · omega
  rename_i h1
  match nm, h0 with
  | c :: t, _ =>
    rw [tokF_cons] at h h1
    by_cases hc : (Lx.isSmall c || decide (c.toNat = 95)) = true
    · rw [if_pos hc] at h h1
      have hlen : (c :: t).length ≤ Lx.runN [39] (c :: t) := by
        simp only at h1
        omega
      have hall := run_all hlen
      have hrun := run_stop (r := r) hall (by
        rcases hr with rfl | ⟨d, u, rfl, hd⟩
        · exact .inl rfl
        · exact .inr ⟨d, u, rfl, (end_ch hd).1⟩)
      have hself := run_stop (r := []) hall (.inl rfl)
      rw [List.append_nil] at hself
      refine ⟨⟨c, t, rfl, by simpa using hc⟩, ?_⟩
      rw [List.cons_append] at hrun ⊢
      rw [tokF_cons, if_pos hc, hrun]
      rw [hself, List.take_of_length_le (Nat.le_refl _)] at h
      rw [← List.cons_append, List.take_left]
      exact Prod.ext h rfl
    · rw [if_neg hc] at h
      split at h
      · cases h
      · split at h
        · cases h
        · split at h
          · cases h
          · split at h
            · cases h
            · cases h
theorem dig_letter {c : UInt8} (h : Lx.isDigit c = true) : Lx.nameCh [] c = true := by unfold Lx.nameCh Lx.isLetter; rw [h]; simp
theorem small_letter {c : UInt8} (h : Lx.isSmall c = true) : Lx.nameCh [] c = true := by unfold Lx.nameCh Lx.isLetter; rw [h]; simp
theorem dec_digits (n : Nat) : ∀ c ∈ Lib.decDigits n, Lx.isDigit c = true := by
  induction n using Nat.strongRecOn with
  | ind n ih =>
    intro c hc
    rw [Lib.decDigits.eq_def] at hc
    split at hc
    · rw [List.mem_singleton] at hc
      subst hc
      unfold Lx.isDigit
      rw [decide_eq_true_iff]
      simp only [UInt8.toNat_ofNat']
      omega
    · rcases List.mem_append.1 hc with h | h
      · exact ih _ (by omega) c h
      · rw [List.mem_singleton] at h
        subst h
        unfold Lx.isDigit
        rw [decide_eq_true_iff]
        simp only [UInt8.toNat_ofNat']
        omega
theorem parse_app : ∀ (l m : List UInt8) (acc v : Nat), Lib.parseUint10 acc l = .ok v → Lib.parseUint10 acc (l ++ m) = Lib.parseUint10 v m
  | [], m, acc, v, h => by
    simp only [Lib.parseUint10] at h
    injection h with h
    rw [h, List.nil_append]
  | c :: l, m, acc, v, h => by
    rw [List.cons_append]
    simp only [Lib.parseUint10] at h ⊢
    split at h
    · rename_i h1
      rw [if_pos h1]
      split at h
      · cases h
      · rename_i h2
        rw [if_neg h2]
        split at h
        · cases h
        · rename_i h3
          rw [if_neg h3]
          exact parse_app l m _ v h
    · cases h
theorem parse_dec (n : Nat) : n < 1000000000 → Lib.parseUint10 0 (Lib.decDigits n) = .ok n := by
  induction n using Nat.strongRecOn with
  | ind n ih =>
    intro hn
    rw [Lib.decDigits.eq_def]
    split
    · simp only [Lib.parseUint10, UInt8.toNat_ofNat']
      rw [if_pos (by omega), if_neg (by omega), if_neg (by omega)]
      congr 1
      omega
    · rw [parse_app _ _ 0 (n / 10) (ih _ (by omega) (by omega))]
      simp only [Lib.parseUint10, UInt8.toNat_ofNat']
      rw [if_pos (by omega), if_neg (by omega), if_neg (by omega)]
      congr 1
      omega
theorem dec_ne (n : Nat) : Lib.decDigits n ≠ [] := by
  rw [Lib.decDigits.eq_def]
  split <;> simp
theorem atoi_dec {n : Nat} (hn : n < 1000000000) : Lib.atoiAll (Lib.decDigits n) = .ok (n : Int) := by
  have hp := parse_dec n hn
  have hd := dec_digits n
  cases hl : Lib.decDigits n with
  | nil => exact absurd hl (dec_ne n)
  | cons c r =>
    rw [hl] at hp hd
    have hc := hd c (by simp)
    unfold Lx.isDigit at hc
    rw [decide_eq_true_iff] at hc
    unfold Lib.atoiAll
    simp only
    rw [if_neg (by omega)]
    unfold Lib.parseMag
    rw [if_neg (by simp), hp]
    simp only
    rw [if_neg (by omega), if_neg (by omega), if_neg (by omega)]
theorem var_letter {n : Int} (h0 : 0 ≤ n) : ∃ c : UInt8, 97 + (n % 26).toNat.toUInt8 = c ∧ (c.toNat : Int) = 97 + n % 26 ∧ Lx.isSmall c = true := by
  have h := letter_num h0
  refine ⟨_, rfl, h.symm, ?_⟩
  unfold Lx.isSmall
  rw [decide_eq_true_iff]
  omega
theorem varN_varB {n : Int} (h0 : 0 ≤ n) (h1 : n < 1073741824) : varN (varB n) = some n := by
  obtain ⟨c, hc, hn, -⟩ := var_letter h0
  unfold varB
  rw [hc]
  by_cases h26 : 26 ≤ n
  · rw [if_pos h26]
    show varN (39 :: c :: Lib.decDigits (n / 26).toNat) = _
    unfold varN
    simp only
    rw [if_neg (dec_ne _), atoi_dec (by omega)]
    simp only
    rw [if_pos (by omega)]
    congr 1
    omega
  · rw [if_neg h26]
    show varN [39, c] = _
    unfold varN
    simp only [if_true]
    congr 1
    omega
/-- a variable's word, and what ends it. -/
theorem var_tok {n : Int} (h0 : 0 ≤ n) {r : List UInt8} (hr : End r) : (∃ t, varB n = 39 :: t) ∧ Lx.tokF (varB n ++ r) = (4, (varB n).length) := by
  obtain ⟨c, hc, hn, hs⟩ := var_letter h0
  obtain ⟨ds, hds, hdd⟩ : ∃ ds, varB n = 39 :: c :: ds ∧ ∀ d ∈ ds, Lx.nameCh [] d = true := by
    unfold varB
    rw [hc]
    by_cases h26 : 26 ≤ n
    · rw [if_pos h26]
      exact ⟨_, rfl, fun d hd => dig_letter (dec_digits _ d hd)⟩
    · rw [if_neg h26]
      exact ⟨[], rfl, by simp⟩
  refine ⟨⟨_, hds⟩, ?_⟩
  rw [hds]
  have hrun := run_stop (m := []) (l := c :: ds) (r := r) (fun d hd => by
    rcases List.mem_cons.1 hd with rfl | hd
    · exact small_letter hs
    · exact hdd d hd) (by
    rcases hr with rfl | ⟨d, u, rfl, hd⟩
    · exact .inl rfl
    · exact .inr ⟨d, u, rfl, (end_ch hd).2⟩)
  show Lx.tokF (39 :: (c :: ds ++ r)) = _
  rw [tokF_cons, if_neg (by decide), if_neg (by decide), if_neg (by decide), if_pos (by show (decide ((39 : UInt8).toNat = 39) && Lx.isSmall c) = true; rw [hs]; decide), hrun]
  rfl
end To
end Go.Proofs.YtmpmibebkflaiaaDoor
