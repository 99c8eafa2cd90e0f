/- Every right type's text is read as that type. -/
import Derived.Test.YtmpmibebkflaiaaDoorTypTp
namespace Go.Proofs.YtmpmibebkflaiaaDoor
open Go.RowKit Go.Lib Tp
set_option maxRecDepth 100000
set_option linter.unusedVariables false
set_option linter.unusedSectionVars false
namespace To
theorem sep_cons {N : Step} {S z : ByteArray} {ts : List Lx.Tok} {i : Nat} {b : Bool} {t : Ty} {k : Nat} {d : Bool} {l : List Ty} {j : Nat} {c : Bool} (hz : isT S z (hereT ts i) = true) (hN : N (i + 1) b t k d) (h : SepTo N S z ts k d l j c) : SepTo N S z ts i b (t :: l) j c := by
  induction h with
  | nil => exact .snoc (.nil _ _) hz hN
  | snoc h hz' hN' ih => exact .snoc ih hz' hN'
def sepItems (sg z : List UInt8) (ps : List (Ty × List It)) : List It := ps.flatMap fun p => ⟨sg, 6, z⟩ :: p.2
theorem sepItems_cons (sg z : List UInt8) (p : Ty × List It) (ps : List (Ty × List It)) : sepItems sg z (p :: ps) = ⟨sg, 6, z⟩ :: (p.2 ++ sepItems sg z ps) := by simp [sepItems]
theorem sep_flat (sg z : List UInt8) (ps : List (Ty × List It)) : flat (sepItems sg z ps) = ps.flatMap fun p => sg ++ (z ++ flat p.2) := by
  induction ps with
  | nil => rfl
  | cons p ps ih => rw [sepItems_cons, flat_cons, flat_append, ih, List.flatMap_cons]; simp
theorem sep_items {S : ByteArray} {A : List It} (hT : TF S A) (N : Step) (sg z : List UInt8) (Q : List It → Prop) (hQ : ∀ r, Q (⟨sg, 6, z⟩ :: r)) : ∀ ps : List (Ty × List It), (∀ p ∈ ps, ∀ i rest, A.drop i = p.2 ++ rest → Q rest → N i false p.1 (i + p.2.length) false) →
    ∀ i rest, A.drop i = sepItems sg z ps ++ rest → Q rest → SepTo N S ⟨⟨z⟩⟩ (tokT S) i false (ps.map (·.1)) (i + (sepItems sg z ps).length) false
  | [], _, i, rest, _, _ => .nil _ _
  | p :: ps, hN, i, rest, hd, hr => by
    rw [sepItems_cons, List.cons_append, List.append_assoc] at hd
    have h0 := head_get0 hd
    have hd1 : A.drop (i + 1) = p.2 ++ (sepItems sg z ps ++ rest) := drop_next (l := [_]) hd
    have hq : Q (sepItems sg z ps ++ rest) := by
      cases ps with
      | nil => exact hr
      | cons q ps => rw [sepItems_cons, List.cons_append]; exact hQ _
    have h1 := hN p (by simp) (i + 1) _ hd1 hq
    have h2 := sep_items hT N sg z Q hQ ps (fun q hq => hN q (by simp [hq])) _ rest (drop_next hd1) hr
    have := sep_cons (hT.yes h0 rfl rfl) h1 h2
    rw [List.map_cons, sepItems_cons]
    rw [show i + (({ g := sg, k := 6, w := z } : It) :: (p.2 ++ sepItems sg z ps)).length = i + 1 + p.2.length + (sepItems sg z ps).length by simp; omega]
    exact this
theorem sep_end {sg z : List UInt8} (he : ∀ r, End (flat (⟨sg, 6, z⟩ :: r))) (ps : List (Ty × List It)) {rest : List It} (h : End (flat rest)) : End (flat (sepItems sg z ps ++ rest)) := by
  cases ps with
  | nil => exact h
  | cons p ps => rw [sepItems_cons, List.cons_append]; exact he _
theorem sep_follow {sg z : List UInt8} (hs : ∀ r, OkIt ⟨sg, 6, z⟩ r) (he : ∀ r, End (flat (⟨sg, 6, z⟩ :: r))) : ∀ ps : List (Ty × List It), (∀ p ∈ ps, Follow p.2) → Follow (sepItems sg z ps)
  | [], _, rest, h1, h2 => h1
  | p :: ps, h, rest, h1, h2 => by
    rw [sepItems_cons, List.cons_append, List.append_assoc]
    exact ⟨hs _, h p (by simp) _ (sep_follow hs he ps (fun q hq => h q (by simp [hq])) rest h1 h2) (sep_end he ps h2)⟩
theorem choose_list {Q : Ty → List It → Prop} : ∀ xs : List Ty, (∀ x ∈ xs, ∃ l, Q x l) → ∃ ps : List (Ty × List It), ps.map (·.1) = xs ∧ ∀ p ∈ ps, Q p.1 p.2
  | [], _ => ⟨[], rfl, by simp⟩
  | x :: xs, h => by
    obtain ⟨l, hl⟩ := h x (by simp)
    obtain ⟨ps, h1, h2⟩ := choose_list xs fun y hy => h y (by simp [hy])
    refine ⟨(x, l) :: ps, by simp [h1], fun p hp => ?_⟩
    rcases List.mem_cons.1 hp with rfl | hp
    · exact hl
    · exact h2 p hp
theorem flatMap_same {α β : Type} {l : List α} {f g : α → List β} (h : ∀ a ∈ l, f a = g a) : l.flatMap f = l.flatMap g := by
  induction l with
  | nil => rfl
  | cons a l ih => rw [List.flatMap_cons, List.flatMap_cons, h a (by simp), ih fun b hb => h b (by simp [hb])]
theorem joinB_flat (sep : List UInt8) (ks : List Int) (p : Int × List UInt8) (ps : List (Int × List UInt8)) : joinB sep ks (p :: ps) = br ks p ++ ps.flatMap fun q => sep ++ br ks q := by
  induction ps generalizing p with
  | nil => simp [joinB]
  | cons q ps ih => rw [joinB, ih q, List.flatMap_cons]; simp
/-- what is said of a type's text. -/
def Good (t : Ty) : Prop := ∀ g, (g = [] ∨ g = [32]) → ∃ l, flat l = g ++ writeB t ∧ Follow l ∧ Fst g l ∧ WholeP t l ∧ (t.kind ≠ 4 → LeftP t l) ∧ (t.kind ≠ 3 → t.kind ≠ 4 → NamesP t l (t.wt - 1))
theorem good_names {t : Ty} (h3 : t.kind ≠ 3) (h4 : t.kind ≠ 4) (h : ∀ g, (g = [] ∨ g = [32]) → ∃ l, flat l = g ++ writeB t ∧ Follow l ∧ Fst g l ∧ NamesP t l (t.wt - 1)) : Good t := fun g hg => by
  obtain ⟨l, a, b, c, d⟩ := h g hg
  exact ⟨l, a, b, c, d.left.whole, fun _ => d.left, fun _ _ => d⟩
/-- a piece in brackets, if it is an arrow or a pair. -/
theorem good_piece {x : Ty} (h : Good x) : ∀ g, (g = [] ∨ g = [32]) → ∃ l, flat l = g ++ br [3, 4] (x.kind, writeB x) ∧ Follow l ∧ Fst g l ∧ NamesP x l x.wt := fun g hg => by
  by_cases hk : x.kind = 3 ∨ x.kind = 4
  · obtain ⟨l, a, b, c, d, -⟩ := h [] (.inl rfl)
    refine ⟨brk g l, ?_, brk_follow hg b c, brk_fst _ _, brk_names d⟩
    rw [flat_brk, a, br, if_pos (by rcases hk with h | h <;> simp [h])]
    simp
  · obtain ⟨l, a, b, c, -, -, d⟩ := h g hg
    refine ⟨l, ?_, b, c, fun S A hT i rest hd k hk' => d (fun e => hk (.inl e)) (fun e => hk (.inr e)) S A hT i rest hd k (by omega)⟩
    rw [a, br, if_neg (by simp; omega)]
def LeftQ (t : Ty) (l : List It) : Prop := ∀ S A, TF S A → ∀ i rest, A.drop i = l ++ rest → NoName rest → NoW [42] rest → ∀ k, t.wt ≤ k →
  ∃ x i1 ls, NamedR (WholeR S (tokT S) k) S (tokT S) i false x i1 false ∧ SepTo (NamedR (WholeR S (tokT S) k) S (tokT S)) S ⟨#[42]⟩ (tokT S) i1 false ls (i + l.length) false ∧ leftT x ls = t
theorem good_left {x : Ty} (h : Good x) : ∀ g, (g = [] ∨ g = [32]) → ∃ l, flat l = g ++ br [4] (x.kind, writeB x) ∧ Follow l ∧ Fst g l ∧ LeftQ x l := fun g hg => by
  by_cases hk : x.kind = 4
  · obtain ⟨l, a, b, c, d, -⟩ := h [] (.inl rfl)
    refine ⟨brk g l, ?_, brk_follow hg b c, brk_fst _ _, fun S A hT i rest hd hn hs k hk' => ⟨x, _, [], (brk_names d).named hT hd hn hk', .nil _ _, rfl⟩⟩
    rw [flat_brk, a, br, if_pos (by simp [hk])]
    simp
  · obtain ⟨l, a, b, c, -, d, -⟩ := h g hg
    refine ⟨l, ?_, b, c, fun S A hT i rest hd hn hs k hk' => d hk S A hT i rest hd hn hs k (by omega)⟩
    rw [a, br, if_neg (by simp; omega)]
theorem one_name {g : List UInt8} {nm : List UInt8} (hg : g = [] ∨ g = [32]) (h : kindF nm = 1) : Follow [⟨g, 1, nm⟩] := fun rest h1 h2 => ⟨name_ok hg h h2, h1⟩
theorem name_fst {g : List UInt8} {nm : List UInt8} (h : kindF nm = 1) (r : List It) : Fst g (⟨g, 1, nm⟩ :: r) := by
  obtain ⟨⟨c, t, hc, hs⟩, -⟩ := name_tok (r := []) h (.inl rfl)
  refine ⟨_, _, rfl, rfl, c, t, hc, ?_⟩
  rintro rfl
  rcases hs with hs | hs
  · exact absurd hs (by decide)
  · exact absurd hs (by decide)
theorem no_name_sign (g z : List UInt8) (r : List It) : NoName (⟨g, 6, z⟩ :: r) := fun x hx => by
  simp at hx
  subst hx
  show (6 : Nat) ≠ 1
  decide
theorem stop_sign {g z : List UInt8} (hz : z ≠ [42]) (hz2 : z ≠ [45, 62]) (r : List It) : NoName (⟨g, 6, z⟩ :: r) ∧ NoW [42] (⟨g, 6, z⟩ :: r) ∧ NoW [45, 62] (⟨g, 6, z⟩ :: r) :=
  ⟨no_name_sign _ _ _, fun x hx => by simp at hx; subst hx; exact hz, fun x hx => by simp at hx; subst hx; exact hz2⟩
theorem con_ok {t : Ty} (h : rightPart nameB t = true) : t.kind = 1 ∨ t.kind = 2 ∨ t.kind = 3 ∨ t.kind = 4 := by
  unfold rightPart at h
  split at h
  · exact .inl ‹_›
  · split at h
    · exact .inr (.inl ‹_›)
    · split at h
      · exact .inr (.inr (.inl ‹_›))
      · split at h
        · exact .inr (.inr (.inr ‹_›))
        · cases h
theorem con_name {t : Ty} (h : rightPart nameB t = true) (hk : t.kind = 2) : t.num = 0 ∧ kindF t.name.data.toList = 1 := by
  unfold rightPart at h
  rw [if_neg (by omega), if_pos hk, Bool.and_eq_true, decide_eq_true_iff] at h
  refine ⟨h.1, ?_⟩
  have := h.2
  unfold nameB at this
  exact beq_iff_eq.1 this
theorem pair_args {t : Ty} (h : rightPart nameB t = true) (hk : t.kind = 3) : ∃ x y ys, t = .mk 3 0 ⟨#[]⟩ (x :: y :: ys) := by
  have hn := rp_num h (by omega)
  unfold rightPart at h
  rw [if_neg (by omega), if_neg (by omega), if_pos hk, Bool.and_eq_true, Bool.and_eq_true, decide_eq_true_iff, beq_iff_eq, decide_eq_true_iff] at h
  obtain ⟨k, n, s, l⟩ := t
  simp only [Ty.kind, Ty.num, Ty.name, Ty.args] at *
  subst hk hn
  rw [ba_nil h.1.2]
  match l, h.2 with
  | x :: y :: ys, _ => exact ⟨x, y, ys, rfl⟩
theorem arrow_args {t : Ty} (h : rightPart nameB t = true) (hk : t.kind = 4) : ∃ x y, t = .mk 4 0 ⟨#[]⟩ [x, y] := by
  have hn := rp_num h (by omega)
  unfold rightPart at h
  rw [if_neg (by omega), if_neg (by omega), if_neg (by omega), if_pos hk, Bool.and_eq_true, Bool.and_eq_true, decide_eq_true_iff, beq_iff_eq, beq_iff_eq] at h
  obtain ⟨k, n, s, l⟩ := t
  simp only [Ty.kind, Ty.num, Ty.name, Ty.args] at *
  subst hk hn
  rw [ba_nil h.1.2]
  match l, h.2 with
  | [x, y], _ => exact ⟨x, y, rfl⟩
theorem good_var {n : Int} (h0 : 0 ≤ n) (h1 : n < 1073741824) : Good (var n) :=
  good_names (show (1 : Int) ≠ 3 by decide) (show (1 : Int) ≠ 4 by decide) fun g hg => ⟨[⟨g, 4, varB n⟩], by
    rw [flat_cons, flat_nil, List.append_nil, writeB_eq]
    rfl, fun rest h2 h3 => ⟨var_ok hg h0 h3, h2⟩, by
    obtain ⟨⟨t, hc⟩, -⟩ := var_tok h0 (r := []) (.inl rfl)
    exact ⟨_, _, rfl, rfl, 39, t, hc, by decide⟩, fun S A hT i rest hd k _ => by
    have hg := head_get0 hd
    refine ⟨var n, i + 1, ?_, .nil _ _⟩
    unfold HeadR
    rw [(hT.at hg).1, if_pos rfl, (hT.at hg).2]
    show match varN (varB n) with | some n => _ | none => _
    rw [varN_varB h0 h1]
    exact ⟨rfl, rfl, rfl⟩⟩
theorem good_con {nm : ByteArray} {xs : List Ty} (hn : kindF nm.data.toList = 1) (ih : ∀ x ∈ xs, Good x) : Good (.mk 2 0 nm xs) := by
  refine good_names (by decide : (2 : Int) ≠ 3) (by decide : (2 : Int) ≠ 4) fun g hg => ?_
  have hw : writeB (.mk 2 0 nm xs) = (match texts xs with | [] => nm.data.toList | [p] => br [3, 4] p ++ [32] ++ nm.data.toList | ps => [40] ++ joinB [44, 32] [] ps ++ [41, 32] ++ nm.data.toList) := by
    rw [writeB_eq]
    rfl
  match xs, ih, hw with
  | [], ih, hw =>
    refine ⟨[⟨g, 1, nm.data.toList⟩], by rw [flat_cons, flat_nil, List.append_nil, hw]; rfl, one_name hg hn, name_fst hn _, fun S A hT i rest hd k _ => ?_⟩
    have h0 := head_get0 hd
    refine ⟨.mk 2 0 nm [], i + 1, ?_, .nil _ _⟩
    unfold HeadR
    rw [(hT.at h0).1, if_neg (show ¬ (1 : Nat) = 4 by decide), if_pos rfl, hT.word h0 rfl]
    exact ⟨rfl, rfl, rfl⟩
  | [x], ih, hw =>
    obtain ⟨l, a, b, c, d⟩ := good_piece (ih x (by simp)) g hg
    refine ⟨l ++ [⟨[32], 1, nm.data.toList⟩], ?_, ?_, c.app _, fun S A hT i rest hd k hk => ?_⟩
    · rw [flat_append, a, flat_cons, flat_nil, List.append_nil, hw]
      simp [texts_eq]
    · exact b.app (one_name (.inr rfl) hn) fun rest _ => by rw [List.cons_append, flat_cons]; exact end_of 32 (.inl rfl) _
    · rw [List.append_assoc, List.singleton_append] at hd
      have h1 := head_get hd
      obtain ⟨t0, i0, h2, h3⟩ := d S A hT i _ hd k (by rw [Ty.wt_eq] at hk; simp [Ty.args, Ty.wts] at hk; omega)
      refine ⟨t0, i0, h2, ?_⟩
      have := NamesTo.snoc h3 (hT.at h1).1
      rw [hT.word h1 rfl] at this
      rw [List.length_append, List.length_singleton, ← Nat.add_assoc]
      exact this
  | x :: y :: ys, ih, hw =>
    obtain ⟨lx, a, b, c, d, -⟩ := ih x (by simp) [] (.inl rfl)
    obtain ⟨ps, hp, hq⟩ := choose_list (Q := fun z l => flat l = [32] ++ writeB z ∧ Follow l ∧ WholeP z l) (y :: ys) fun z hz => by
      obtain ⟨l, a, b, -, d, -⟩ := ih z (by simp [List.mem_cons.1 hz]) [32] (.inr rfl)
      exact ⟨l, a, b, d⟩
    have hsep : ∀ r, End (flat (⟨[], 6, [44]⟩ :: r)) := fun r => by rw [flat_cons]; exact end_of 44 (.inr (.inr rfl)) _
    refine ⟨⟨g, 6, [40]⟩ :: (lx ++ (sepItems [] [44] ps ++ [⟨[], 6, [41]⟩, ⟨[32], 1, nm.data.toList⟩])), ?_, fun rest h1 h2 => ?_, ⟨_, _, rfl, rfl, 40, [], rfl, by decide⟩, fun S A hT i rest hd k hk => ?_⟩
    · rw [flat_cons, flat_append, a, flat_append, sep_flat, flat_cons, flat_cons, flat_nil, hw]
      have e1 : texts (x :: y :: ys) = (x.kind, writeB x) :: (y :: ys).map (fun t => (t.kind, writeB t)) := by rw [texts_eq]; rfl
      have e2 : (ps.flatMap fun p => ([] : List UInt8) ++ ([44] ++ flat p.2)) = ((y :: ys).map fun t => (t.kind, writeB t)).flatMap fun q => [44, 32] ++ br [] q := by
        rw [← hp, List.map_map, List.flatMap_map]
        refine flatMap_same fun p hp' => ?_
        rw [(hq p hp').1]
        rfl
      rw [e2, e1]
      show _ = g ++ ([40] ++ joinB [44, 32] [] ((x.kind, writeB x) :: (y :: ys).map (fun t => (t.kind, writeB t))) ++ [41, 32] ++ nm.data.toList)
      rw [joinB_flat]
      have e3 : br [] (x.kind, writeB x) = writeB x := rfl
      rw [e3]
      simp
    · have h3 : OkIts (⟨[32], 1, nm.data.toList⟩ :: rest) := ⟨name_ok (.inr rfl) hn h2, h1⟩
      have h4 : OkIts (⟨[], 6, [41]⟩ :: ⟨[32], 1, nm.data.toList⟩ :: rest) := ⟨sign_ok (.inl rfl) (.inl rfl) _, h3⟩
      have h5 := sep_follow (fun r => sign_ok (.inl rfl) (.inr (.inl rfl)) r) hsep ps (fun p hp => (hq p hp).2.1) _ h4 (by rw [flat_cons]; exact end_of 41 (.inr (.inl rfl)) _)
      have h6 := b _ h5 (sep_end hsep ps (by rw [flat_cons]; exact end_of 41 (.inr (.inl rfl)) _))
      rw [List.cons_append, List.append_assoc, List.append_assoc]
      exact ⟨open_ok hg (fst_ne c _), h6⟩
    · rw [List.cons_append, List.append_assoc, List.append_assoc] at hd
      have h0 := head_get0 hd
      have hd1 : A.drop (i + 1) = lx ++ (sepItems [] [44] ps ++ ([⟨[], 6, [41]⟩, ⟨[32], 1, nm.data.toList⟩] ++ rest)) := drop_next (l := [_]) hd
      have hwt := Ty.wt_eq (Ty.mk 2 0 nm (x :: y :: ys))
      have hwx : ∀ z ∈ x :: y :: ys, z.wt ≤ k := fun z hz => by
        have := Ty.wt_lt (t := Ty.mk 2 0 nm (x :: y :: ys)) hz
        omega
      obtain ⟨q, qs, rfl⟩ : ∃ q qs, ps = q :: qs := by
        cases ps with
        | nil => simp at hp
        | cons q qs => exact ⟨q, qs, rfl⟩
      have hst := stop_sign (g := []) (z := [44]) (by decide) (by decide) (q.2 ++ sepItems [] [44] qs ++ ([⟨[], 6, [41]⟩, ⟨[32], 1, nm.data.toList⟩] ++ rest))
      have h1 := d S A hT (i + 1) _ hd1 (by rw [sepItems_cons]; exact hst.1) (by rw [sepItems_cons]; exact hst.2.1) (by rw [sepItems_cons]; exact hst.2.2) k (hwx x (by simp))
      have hd2 := drop_next hd1
      have h2 := sep_items hT (WholeR S (tokT S) k) [] [44] (fun r => NoName r ∧ NoW [42] r ∧ NoW [45, 62] r) (fun r => stop_sign (by decide) (by decide) r) (q :: qs) (fun p hp' i rest hd ⟨s1, s2, s3⟩ => (hq p hp').2.2 S A hT i rest hd s1 s2 s3 k (hwx p.1 (by
          have : p.1 ∈ (q :: qs).map (·.1) := List.mem_map.2 ⟨p, hp', rfl⟩
          rw [hp] at this
          exact List.mem_cons_of_mem _ this))) _ _ hd2 (stop_sign (by decide) (by decide) _)
      have hc := head_get hd2
      have hd3 := drop_next (l := [_]) (drop_next hd2)
      have hnm : A[i + 1 + lx.length + (sepItems [] [44] (q :: qs)).length + 1]? = some ⟨[32], 1, nm.data.toList⟩ := head_get0 hd3
      refine ⟨.mk 2 0 nm (x :: y :: ys), i + 1 + lx.length + (sepItems [] [44] (q :: qs)).length + 1 + 1, ?_, ?_⟩
      · unfold HeadR
        rw [(hT.at h0).1, if_neg (show ¬ (6 : Nat) = 4 by decide), if_neg (show ¬ (6 : Nat) = 1 by decide), if_pos (hT.yes h0 rfl rfl)]
        refine ⟨x, _, false, _, _, false, h1, h2, ?_, ?_⟩
        · exact hT.no (z := [44]) fun z hz => by rw [hc] at hz; obtain rfl := Option.some.inj hz; decide
        · rw [if_neg (by rw [hp]; simp)]
          have he : endR S (tokT S) (i + 1 + lx.length + (sepItems [] [44] (q :: qs)).length) false = (i + 1 + lx.length + (sepItems [] [44] (q :: qs)).length + 1, false) := by
            unfold endR
            rw [if_pos (hT.yes hc rfl rfl)]
          rw [he]
          dsimp only
          rw [if_pos (hT.at hnm).1, hT.word hnm rfl, hp]
          exact ⟨rfl, rfl, rfl⟩
      · rw [show i + (({ g := g, k := 6, w := [40] } : It) :: (lx ++ (sepItems [] [44] (q :: qs) ++ [⟨[], 6, [41]⟩, ⟨[32], 1, nm.data.toList⟩]))).length = i + 1 + lx.length + (sepItems [] [44] (q :: qs)).length + 1 + 1 by simp; omega]
        exact .nil _ _
theorem good_pair {x y : Ty} {ys : List Ty} (ih : ∀ z ∈ x :: y :: ys, Good z) : Good (.mk 3 0 ⟨#[]⟩ (x :: y :: ys)) := fun g hg => by
  obtain ⟨lx, a, b, c, d⟩ := good_piece (ih x (by simp)) g hg
  obtain ⟨ps, hp, hq⟩ := choose_list (Q := fun z l => flat l = [32] ++ br [3, 4] (z.kind, writeB z) ∧ Follow l ∧ NamesP z l z.wt) (y :: ys) fun z hz => by
    obtain ⟨l, a, b, -, d⟩ := good_piece (ih z (List.mem_cons_of_mem _ hz)) [32] (.inr rfl)
    exact ⟨l, a, b, d⟩
  have hsep : ∀ r, End (flat (⟨[32], 6, [42]⟩ :: r)) := fun r => by rw [flat_cons]; exact end_of 32 (.inl rfl) _
  have hleft : LeftP (.mk 3 0 ⟨#[]⟩ (x :: y :: ys)) (lx ++ sepItems [32] [42] ps) := fun S A hT i rest hd hn hs k hk => by
    have hwx : ∀ z ∈ x :: y :: ys, z.wt ≤ k := fun z hz => by
      have := Ty.wt_lt (t := Ty.mk 3 0 ⟨#[]⟩ (x :: y :: ys)) hz
      omega
    rw [List.append_assoc] at hd
    have hn1 : NoName (sepItems [32] [42] ps ++ rest) := by
      cases ps with
      | nil => exact hn
      | cons q qs => rw [sepItems_cons, List.cons_append]; exact no_name_sign _ _ _
    refine ⟨x, i + lx.length, y :: ys, d.named hT hd hn1 (hwx x (by simp)), ?_, rfl⟩
    have h2 := sep_items hT (NamedR (WholeR S (tokT S) k) S (tokT S)) [32] [42] NoName (fun r => no_name_sign _ _ r) ps (fun p hp' i rest hd s1 => (hq p hp').2.2.named hT hd s1 (hwx p.1 (by
        have : p.1 ∈ ps.map (·.1) := List.mem_map.2 ⟨p, hp', rfl⟩
        rw [hp] at this
        exact List.mem_cons_of_mem _ this))) _ _ (drop_next hd) hn
    rw [hp] at h2
    rw [List.length_append, ← Nat.add_assoc]
    exact h2
  refine ⟨lx ++ sepItems [32] [42] ps, ?_, b.app (sep_follow (fun r => sign_ok (.inr rfl) (.inr (.inr rfl)) r) hsep ps fun p hp => (hq p hp).2.1) fun rest h => sep_end hsep ps h, c.app _, hleft.whole, fun _ => hleft, fun h => absurd rfl h⟩
  have hw : writeB (.mk 3 0 ⟨#[]⟩ (x :: y :: ys)) = joinB [32, 42, 32] [3, 4] (texts (x :: y :: ys)) := by
    rw [writeB_eq]
    rfl
  rw [flat_append, a, sep_flat, hw]
  have e1 : texts (x :: y :: ys) = (x.kind, writeB x) :: (y :: ys).map (fun t => (t.kind, writeB t)) := by rw [texts_eq]; rfl
  have e2 : (ps.flatMap fun p => [32] ++ ([42] ++ flat p.2)) = ((y :: ys).map fun t => (t.kind, writeB t)).flatMap fun q => [32, 42, 32] ++ br [3, 4] q := by
    rw [← hp, List.map_map, List.flatMap_map]
    refine flatMap_same fun p hp' => ?_
    rw [(hq p hp').1]
    rfl
  rw [e2, e1, joinB_flat, List.append_assoc]
theorem good_arrow {x y : Ty} (hx : Good x) (hy : Good y) : Good (.mk 4 0 ⟨#[]⟩ [x, y]) := fun g hg => by
  obtain ⟨lx, a, b, c, d⟩ := good_left hx g hg
  obtain ⟨ly, a2, b2, -, d2, -⟩ := hy [32] (.inr rfl)
  refine ⟨lx ++ (⟨[32], 6, [45, 62]⟩ :: ly), ?_, fun rest h1 h2 => ?_, c.app _, fun S A hT i rest hd hn hs ha k hk => ?_, fun h => absurd rfl h, fun _ h => absurd rfl h⟩
  · have hw : writeB (.mk 4 0 ⟨#[]⟩ [x, y]) = br [4] (x.kind, writeB x) ++ [32, 45, 62, 32] ++ writeB y := by
      rw [writeB_eq]
      show (match texts [x, y] with | p :: q :: _ => br [4] p ++ [32, 45, 62, 32] ++ q.2 | _ => []) = _
      rw [texts_eq]
      rfl
    rw [flat_append, a, flat_cons, a2, hw]
    simp
  · have h3 := b2 rest h1 h2
    have h4 : OkIts (⟨[32], 6, [45, 62]⟩ :: (ly ++ rest)) := ⟨arrow_ok _, h3⟩
    rw [List.append_assoc, List.cons_append]
    exact b _ h4 (by rw [flat_cons]; exact end_of 32 (.inl rfl) _)
  · rw [List.append_assoc, List.cons_append] at hd
    have hw := Ty.wt_eq (Ty.mk 4 0 ⟨#[]⟩ [x, y])
    simp only [Ty.args, Ty.wts] at hw
    have hwy := Ty.wt_eq y
    have hwx := Ty.wt_eq x
    obtain ⟨m, rfl⟩ : ∃ m, k = m + 1 := ⟨k - 1, by omega⟩
    have hc := head_get hd
    obtain ⟨u, i1, ls, h1, h2, h3⟩ := d S A hT i _ hd (no_name_sign _ _ _) (fun z hz => by simp at hz; subst hz; decide) m (by omega)
    have h4 := d2 S A hT _ rest (drop_next (l := [_]) (drop_next hd)) hn hs ha m (by omega)
    rw [WholeR]
    dsimp only
    rw [if_neg (by decide)]
    refine ⟨u, i1, false, ls, i + lx.length, false, h1, h2, hT.no (z := [42]) fun z hz => by rw [hc] at hz; obtain rfl := Option.some.inj hz; decide, ?_⟩
    rw [if_pos (hT.yes (z := [45, 62]) hc rfl rfl)]
    refine ⟨y, ?_, by rw [h3]⟩
    rw [show i + (lx ++ ({ g := [32], k := 6, w := [45, 62] } : It) :: ly).length = i + lx.length + 1 + ly.length by simp; omega]
    exact h4
theorem good_any (t : Ty) : okT nameB t → Good t := by
  refine Ty.ind (P := fun t => okT nameB t → Good t) (fun t ih => ?_) t
  intro hok
  have hs := hok.self
  rcases con_ok hs with hk | hk | hk | hk
  · obtain ⟨h1, h2, h3⟩ := rp_var hs hk
    rw [h1]
    exact good_var h2 h3
  · obtain ⟨h1, h2⟩ := con_name hs hk
    have := good_con (xs := t.args) h2 fun x hx => ih x hx (hok.arg hx)
    rw [← Ty.eta t, hk, h1]
    exact this
  · obtain ⟨x, y, ys, rfl⟩ := pair_args hs hk
    exact good_pair fun z hz => ih z hz (hok.arg hz)
  · obtain ⟨x, y, rfl⟩ := arrow_args hs hk
    exact good_arrow (ih x (by simp [Ty.args]) (hok.arg (by simp [Ty.args]))) (ih y (by simp [Ty.args]) (hok.arg (by simp [Ty.args])))
end To
/-- the text of a right type is read as that type. -/
theorem whole_write {t : Ty} (h : rightF nameB t = true) : ∃ j, WholeR ⟨⟨writeB t⟩⟩ (tokT ⟨⟨writeB t⟩⟩) 301 0 false t j false := by
  obtain ⟨hok, hw⟩ := right_ok h
  obtain ⟨l, a, b, -, d, -⟩ := To.good_any t hok [] (.inl rfl)
  rw [List.nil_append] at a
  have hT : To.TF ⟨⟨writeB t⟩⟩ l := ⟨a.symm, by have := b [] trivial (.inl rfl); rwa [List.append_nil] at this⟩
  exact ⟨_, d _ l hT 0 [] (by simp) (fun x hx => by simp at hx) (fun x hx => by simp at hx) (fun x hx => by simp at hx) 301 (by omega)⟩
end Go.Proofs.YtmpmibebkflaiaaDoor
