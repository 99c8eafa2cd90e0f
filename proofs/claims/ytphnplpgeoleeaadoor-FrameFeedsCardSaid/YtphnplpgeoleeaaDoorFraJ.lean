/- frame's Feed. -/
import Derived.Test.YtphnplpgeoleeaaDoorFraI
import Derived.Test.YtphnplpgeoleeaaDoorRws
namespace Go.Proofs.YtphnplpgeoleeaaDoor
open Go.RowKit Go.Lib Go.Shelf
set_option maxRecDepth 100000
set_option linter.unusedVariables false
set_option linter.unusedSectionVars false

theorem ArgB.news {w : World} {ad : Addr} {n c : Nat} {l : List UInt8} (h : Rd w w.heap.size 1 (.slice (some ad) n c) n (bytesV l)) : ∀ (j : Nat) (u : Value), (bytesV l)[j]? = some u → w.cell? (ad.add j) = some u := by
  intro j u hu
  have hj : j < (bytesV l).length := (List.getElem?_eq_some_iff.1 hu).1
  obtain ⟨hln, A, c', e, _, hr⟩ := h
  obtain ⟨g, o', rfl, hg, hr⟩ := hr (by omega)
  simp only [Value.slice.injEq, Option.some.injEq] at e
  obtain ⟨rfl, _, _⟩ := e
  rw [add_off, hr j (by omega)]
  exact hu
section
variable {P : Program} {w : World}
/-- an append of bytes that may be nil: the row grows where it is, or in a new block. -/
theorem run_append_argB (t ty : TypeId)
    (base : Nat) (e : TypeId) (i : TypeInfo) (z : Value) (ht : P.underlying t = some (.slice e)) (hi : P.info? e = some i) (hz : i.zero = some z)
    (hsize : i.size = 1) (hby : i.bytes = 1) (hzs : z.cells.size = 1)
    (v : Value) (l : List UInt8) (hown : w.ownsRow base e 1 v l.length (bytesV l))
    (u : Value) (m : List UInt8) (hA : ArgB w u m)
    (h63 : l.length + m.length ≤ 140737488355328) (hbase : base ≤ w.heap.size) :
    ∃ v' w', (Builtin.append_ #[t, t] ty #[v, u]).run P w = .ok v' w' ∧ w'.ownsRow base e 1 v' (l ++ m).length (bytesV (l ++ m)) ∧ w.grownBy w' v.ownBlock ∧ (v'.ownBlock = v.ownBlock ∨ ∀ g, v'.ownBlock = some g → w.heap.size ≤ g) := by
  obtain ⟨h1, h2⟩ := hA
  rcases h2 with rfl | ⟨ad, c, rfl⟩
  · have hn0 : m.length = 0 := by
      obtain ⟨_, A, c', e', _⟩ := h1
      simp only [Value.slice.injEq] at e'
      omega
    obtain rfl := List.eq_nil_of_length_eq_zero hn0
    refine ⟨v, w, run_append_owned_none (P := P) (w := w) base t ty e i 1 ht hi v l.length (bytesV l) hown, ?_, ⟨rfl, rfl, rfl, Nat.le_refl _, fun _ _ _ => rfl⟩, .inl rfl⟩
    rw [List.append_nil]
    exact hown
  · have hlen : (l ++ m).length = l.length + m.length := List.length_append
    have hnl : (bytesV m).length = m.length * 1 := by rw [bytesV_len, Nat.mul_one]
    have e3 : bytesV (l ++ m) = bytesV l ++ bytesV m := (bytesV_app l m).symm
    rw [hlen, e3]
    obtain ⟨v', w', hr, ho, hg, -⟩ := run_append_own (P := P) w base t ty e i z 1 1 ht hi hz hsize hby hzs (by decide) v l.length (bytesV l) hown ad m.length c (bytesV m) hnl (ArgB.news h1) (bytesV_plain _) (by unfold maxLen; omega) (by omega) hbase
    refine ⟨v', w', hr, ho, hg, ?_⟩
    rcases hown.2 with ⟨rfl, h0⟩ | ⟨g, cap, cur, rfl, hbg, hgg, hnc, hcm, hcs, htake⟩
    · obtain rfl := List.eq_nil_of_length_eq_zero h0
      obtain ⟨v2, w2, hr2, ho2, -, -⟩ := run_append_own (P := P) w w.heap.size t ty e i z 1 1 ht hi hz hsize hby hzs (by decide) _ 0 [] (World.ownsRow_nil _ _ _ _) ad m.length c (bytesV m) hnl (ArgB.news h1) (bytesV_plain _) (by unfold maxLen; omega) (by omega) (Nat.le_refl _)
      have e2 := hr.symm.trans hr2
      simp only [Result.ok.injEq] at e2
      rw [e2.1]
      exact .inr fun g hg => (ho2.lt g hg).1
    · by_cases hroom : l.length + m.length ≤ cap
      · have hr2 := run_append_room (P := P) w t ty e i ht hi g l.length cap cur hgg ad m.length c (bytesV m) (by rw [hsize]; exact hnl) (ArgB.news h1) (bytesV_plain _) hroom (by rw [hsize, hcs, bytesV_len]; omega)
        have e2 := hr.symm.trans hr2
        simp only [Result.ok.injEq] at e2
        rw [e2.1]
        exact .inl rfl
      · have hr2 := run_append_grow (P := P) w t ty e i z ht hi hz ⟨g, 0, none⟩ l.length cap (bytesV l) (by rw [hsize]; exact hown.1) (hown.cells (g := g) rfl) ad m.length c (bytesV m) (by rw [hsize]; exact hnl) (ArgB.news h1) (by omega) (by omega) (growslice_fits (by omega) (by rw [hby]; omega))
        have e2 := hr.symm.trans hr2
        simp only [Result.ok.injEq] at e2
        rw [e2.1]
        exact .inr fun g' hg' => by
          simp only [Value.ownBlock, Option.some.injEq] at hg'
          omega
theorem wp_append_argB {o : Oper} {a : Act} {K : Act → World → Prop} {Q : Exit → Act → World → Prop} (s x : Operand) (t : TypeId)
    (ho : o.op = .call { callee := .builtin .append, args := #[s, x], argTypes := #[t, t] })
    (base : Nat) (e : TypeId) (i : TypeInfo) (z : Value) (ht : P.underlying t = some (.slice e)) (hi : P.info? e = some i) (hz : i.zero = some z)
    (hsize : i.size = 1) (hby : i.bytes = 1) (hzs : z.cells.size = 1)
    (v : Value) (l : List UInt8) (hs : a.eval s = v) (hown : w.ownsRow base e 1 v l.length (bytesV l))
    (u : Value) (m : List UInt8) (hx : a.eval x = u) (hA : ArgB w u m)
    (h63 : l.length + m.length ≤ 140737488355328) (hbase : base ≤ w.heap.size)
    (h : ∀ v' w', w'.ownsRow base e 1 v' (l ++ m).length (bytesV (l ++ m)) → w.grownBy w' v.ownBlock → (v'.ownBlock = v.ownBlock ∨ ∀ g, v'.ownBlock = some g → w.heap.size ≤ g) → K (a.put o.dst v') w') : o.wp P a w K Q := by
  obtain ⟨v', w', hr, h2, h3, h4⟩ := run_append_argB (P := P) t o.type base e i z ht hi hz hsize hby hzs v l hown u m hA h63 hbase
  unfold Oper.wp execOp
  simp only [ho, resolve, invoke, builtin, Sem.run_bind, Sem.run_pure, Result.andThen_ok, List.map_toArray, List.map_cons, List.map_nil, hs, hx, hr]
  exact h v' w' h2 h3 h4
theorem wpList_append_argB {ops : Array Oper} {rest : List Oper} {o : Oper} {a : Act} {Q : Exit → Act → World → Prop} (hgd : o.guard = none) (s x : Operand) (t : TypeId)
    (ho : o.op = .call { callee := .builtin .append, args := #[s, x], argTypes := #[t, t] })
    (base : Nat) (e : TypeId) (i : TypeInfo) (z : Value) (ht : P.underlying t = some (.slice e)) (hi : P.info? e = some i) (hz : i.zero = some z)
    (hsize : i.size = 1) (hby : i.bytes = 1) (hzs : z.cells.size = 1)
    (v : Value) (l : List UInt8) (hs : a.eval s = v) (hown : w.ownsRow base e 1 v l.length (bytesV l))
    (u : Value) (m : List UInt8) (hx : a.eval x = u) (hA : ArgB w u m)
    (h63 : l.length + m.length ≤ 140737488355328) (hbase : base ≤ w.heap.size)
    (h : ∀ v' w', w'.ownsRow base e 1 v' (l ++ m).length (bytesV (l ++ m)) → w.grownBy w' v.ownBlock → (v'.ownBlock = v.ownBlock ∨ ∀ g, v'.ownBlock = some g → w.heap.size ≤ g) → wpList P ops Q rest (a.put o.dst v') w') : wpList P ops Q (o :: rest) a w :=
  wpList_plain hgd fun _ hK => wp_append_argB s x t ho base e i z ht hi hz hsize hby hzs v l hs hown u m hx hA h63 hbase fun v' w' h2 h3 h4 => hK _ _ (h v' w' h2 h3 h4)
end
/-- what Feed does with the bytes that stand there. -/
def feedF : Nat → List UInt8 → List (List UInt8) × List UInt8 × Nat
  | 0, l => ([], l, 0)
  | f + 1, l =>
    if (measF l).2.2 ≠ 0 then ([], [], (measF l).2.2)
    else if (measF l).1 = 0 ∨ l.length < (measF l).1 + (measF l).2.1 then ([], l, 0)
    else (((l.drop (measF l).1).take (measF l).2.1) :: (feedF f (l.drop ((measF l).1 + (measF l).2.1))).1, (feedF f (l.drop ((measF l).1 + (measF l).2.1))).2)
def feedL (l : List UInt8) : List (List UInt8) × List UInt8 × Nat := feedF l.length l
theorem own_argB {w : World} {B : Nat} {v : Value} {l : List UInt8} (h : w.ownsRow B 5 1 v l.length (bytesV l)) : ArgB w v l := by
  refine ⟨Rd.of_own h, ?_⟩
  rcases h.2 with ⟨rfl, _⟩ | ⟨g, cap, cur, rfl, _⟩
  · exact .inl rfl
  · exact .inr ⟨_, _, rfl⟩
theorem dec_apart {w : World} {D B n : Nat} {hv v : Value} {e : Int} {xs : List Value} (hd : DecAt w D hv e) (h : w.ownsRow B 5 1 v n xs) : some D ≠ v.ownBlock := by
  rcases h.2 with ⟨rfl, _⟩ | ⟨g, cap, cur, rfl, _, hg, _⟩
  · simp [Value.ownBlock]
  · intro e'
    obtain rfl : D = g := by simpa [Value.ownBlock] using e'
    unfold DecAt at hd
    rw [hd] at hg
    simp at hg
theorem DecAt.kept {w w' : World} {D : Nat} {hv : Value} {e : Int} {row : Option Nat} (hd : DecAt w D hv e) (hg : w.grownBy w' row) (hne : some D ≠ row) : DecAt w' D hv e := (hg.block D (Array.getElem?_eq_some_iff.1 hd).1 hne).trans hd
theorem set_two {w : World} {D : Nat} {a b : Value} {t : TypeId} (h : w.heap[D]? = some (.cells #[a, b] t (0, 0))) (u : Value) : (w.setCell ⟨D, 0, none⟩ u).heap[D]? = some (.cells #[u, b] t (0, 0)) ∧ (w.setCell ⟨D, 1, none⟩ u).heap[D]? = some (.cells #[a, u] t (0, 0)) := by
  obtain ⟨hlt, hk⟩ := Array.getElem?_eq_some_iff.1 h
  constructor
  · show (w.heap.modify D _)[D]? = _
    rw [Array.getElem?_eq_getElem (by rw [Array.size_modify]; exact hlt), Array.getElem_modify_self, hk]
    rfl
  · show (w.heap.modify D _)[D]? = _
    rw [Array.getElem?_eq_getElem (by rw [Array.size_modify]; exact hlt), Array.getElem_modify_self, hk]
    rfl
theorem DecAt.setH {w : World} {D : Nat} {hv : Value} {e : Int} (h : DecAt w D hv e) (u : Value) : DecAt (w.setCell ⟨D, 0, none⟩ u) D u e := (set_two h u).1
theorem DecAt.setE {w : World} {D : Nat} {hv : Value} {e : Int} (h : DecAt w D hv e) (e' : Int) : DecAt (w.setCell ⟨D, 1, none⟩ (.int .i64 e')) D hv e' := (set_two h _).2
theorem grownBy_set (W : World) (a : Addr) (v : Value) : W.grownBy (W.setCell a v) (some a.block) :=
  ⟨rfl, rfl, rfl, (KeepsWalks.setCell W _ v).size, fun k _ hk => Below.heap_setCell _ _ _ k (fun e => hk (by rw [e]))⟩
/-- a row of rows of bytes, all in memory of one's own, from block B on and in none of the blocks X. -/
def Rows (B : Nat) (X : Nat → Prop) (acc : List (List UInt8)) (v : Value) (w : World) : Prop :=
  ∃ vs, w.ownsRow B 27 1 v acc.length vs ∧ (∀ g, v.ownBlock = some g → ¬ X g) ∧ ∀ (i : Nat) x, acc[i]? = some x → ∃ u, vs[i]? = some u ∧ u.oneCell' = true ∧ w.ownsRow B 5 1 u x.length (bytesV x) ∧ ∀ g, u.ownBlock = some g → ¬ X g
theorem own_same {w w' : World} {B e size n : Nat} {v : Value} {xs : List Value} (h : w.ownsRow B e size v n xs) (hb : ∀ g, v.ownBlock = some g → w'.heap[g]? = w.heap[g]?) : w'.ownsRow B e size v n xs := by
  refine ⟨h.1, ?_⟩
  rcases h.2 with hn | ⟨g, cap, cur, rfl, hg, hgg, rest⟩
  · exact .inl hn
  · exact .inr ⟨g, cap, cur, rfl, hg, by rw [hb g rfl]; exact hgg, rest⟩
theorem Rows.same {B : Nat} {X : Nat → Prop} {acc : List (List UInt8)} {v : Value} {w w' : World} (h : Rows B X acc v w) (hb : ∀ g, g < w.heap.size → ¬ X g → w'.heap[g]? = w.heap[g]?) : Rows B X acc v w' := by
  obtain ⟨vs, h1, hx, h2⟩ := h
  refine ⟨vs, own_same h1 (fun g hg => hb g (h1.lt g hg).2 (hx g hg)), hx, fun i x hi => ?_⟩
  obtain ⟨u, hu, h1c, ho, hxu⟩ := h2 i x hi
  exact ⟨u, hu, h1c, own_same ho (fun g hg => hb g (ho.lt g hg).2 (hxu g hg)), hxu⟩
theorem Rows.below {B : Nat} {X : Nat → Prop} {acc : List (List UInt8)} {v : Value} {w w' : World} (h : Rows B X acc v w) (hb : Below w.heap.size w w') : Rows B X acc v w' := h.same fun g hg _ => hb.block g hg
theorem Rows.other {B : Nat} {X Y : Nat → Prop} {acc : List (List UInt8)} {v : Value} {w : World} (h : Rows B X acc v w) (hb : ∀ g, B ≤ g → g < w.heap.size → ¬ Y g) : Rows B Y acc v w := by
  obtain ⟨vs, h1, hx, h2⟩ := h
  refine ⟨vs, h1, fun g hg => hb g (h1.lt g hg).1 (h1.lt g hg).2, fun i x hi => ?_⟩
  obtain ⟨u, hu, h1c, ho, hxu⟩ := h2 i x hi
  exact ⟨u, hu, h1c, ho, fun g hg => hb g (ho.lt g hg).1 (ho.lt g hg).2⟩
theorem Rows.base {B B' : Nat} {X : Nat → Prop} {acc : List (List UInt8)} {v : Value} {w : World} (h : Rows B X acc v w) (hb : B' ≤ B) : Rows B' X acc v w := by
  have key : ∀ {e n : Nat} {v : Value} {xs : List Value}, w.ownsRow B e 1 v n xs → w.ownsRow B' e 1 v n xs := fun h => by
    refine ⟨h.1, ?_⟩
    rcases h.2 with hn | ⟨g, cap, cur, rfl, hg, rest⟩
    · exact .inl hn
    · exact .inr ⟨g, cap, cur, rfl, by omega, rest⟩
  obtain ⟨vs, h1, hx, h2⟩ := h
  refine ⟨vs, key h1, hx, fun i x hi => ?_⟩
  obtain ⟨u, hu, h1c, ho, hxu⟩ := h2 i x hi
  exact ⟨u, hu, h1c, key ho, hxu⟩
/-- two rows of cells of other types lie in other blocks. -/
theorem rows_types {w : World} {B B' e e' n n' : Nat} {v v' : Value} {xs xs' : List Value} (h : w.ownsRow B e 1 v n xs) (h' : w.ownsRow B' e' 1 v' n' xs') (he : e ≠ e') : v.ownBlock = none ∨ v.ownBlock ≠ v'.ownBlock := by
  rcases h.2 with ⟨rfl, _⟩ | ⟨g, cap, cur, rfl, _, hg, _⟩
  · exact .inl rfl
  · refine .inr ?_
    rcases h'.2 with ⟨rfl, _⟩ | ⟨g', cap', cur', rfl, _, hg', _⟩
    · simp [Value.ownBlock]
    · intro e'
      obtain rfl : g = g' := by simpa [Value.ownBlock] using e'
      rw [hg] at hg'
      simp at hg'
      exact he hg'.2
def noX (_ : Nat) : Prop := False
theorem rows_next {B : Nat} {acc : List (List UInt8)} {x : List UInt8} {v v' u : Value} {vs : List Value} {w0 w2 w3 : World} {o : Obj} (hb : Below B w0 w2) (hB : B ≤ w2.heap.size) (hv : w2.ownsRow B 27 1 v acc.length vs) (hel : ∀ (i : Nat) x, acc[i]? = some x → ∃ u, vs[i]? = some u ∧ u.oneCell' = true ∧ w2.ownsRow B 5 1 u x.length (bytesV x))
    (hu : w2.ownsRow B 5 1 u x.length (bytesV x)) (hown : w3.ownsRow B 27 1 v' (acc.length + 1) (vs ++ [u])) (hg : (w2.alloc o).grownBy w3 v.ownBlock) :
    Rows B noX (acc ++ [x]) v' w3 ∧ Below B w0 w3 := by
  have hvl : vs.length = acc.length := by have := hv.1; omega
  have hone : ∀ {x : List UInt8} {u : Value}, w2.ownsRow B 5 1 u x.length (bytesV x) → u.oneCell' = true := fun h => by
    rcases h.2 with ⟨rfl, _⟩ | ⟨g, cap, cur, rfl, _⟩ <;> rfl
  refine ⟨⟨vs ++ [u], by rw [List.length_append]; exact hown, fun _ _ => id, fun i y hi => ?_⟩, (hb.alloc hB o).grown hg (by simp; omega) (fun j e => (hv.lt j e).1)⟩
  rcases Nat.lt_or_ge i acc.length with h | h
  · rw [List.getElem?_append_left h] at hi
    obtain ⟨ui, hui, h1c, hoi⟩ := hel i y hi
    exact ⟨ui, by rw [List.getElem?_append_left (by omega)]; exact hui, h1c, (hoi.alloc o).kept hg (rows_types hoi hv (by decide)), fun _ _ => id⟩
  · rw [List.getElem?_append_right h] at hi
    have hi0 : i - acc.length = 0 := by
      have := (List.getElem?_eq_some_iff.1 hi).1
      simp at this
      omega
    rw [hi0] at hi
    simp at hi
    subst hi
    exact ⟨u, by rw [List.getElem?_append_right (by omega), hvl, hi0]; rfl, hone hu, (hu.alloc o).kept hg (rows_types hu hv (by decide)), fun _ _ => id⟩
theorem infoRow : (Tryd.prog.info? 27).map (fun i => (i.zero, i.size, i.bytes)) = some (some (.slice none 0 0), 1, 24) := by kernel_rfl
theorem ArgB.drop {w : World} {ad : Addr} {n c : Nat} {L : List UInt8} (h : ArgB w (.slice (some ad) n c) L) (k : Nat) (hk : k ≤ n) (hkc : k < c) : ArgB w (.slice (some (ad.add k)) (n - k) (c - k)) (L.drop k) := by
  obtain ⟨⟨hl, A', c', e, hc, hr⟩, h2⟩ := h
  simp only [Value.slice.injEq] at e
  obtain ⟨e1, rfl, rfl⟩ := e
  have hlen : (L.drop k).length = L.length - k := by rw [List.length_drop]
  refine ⟨⟨by rw [bytesV_len, Nat.mul_one], some (ad.add k), c - k, by rw [hlen], by rw [hlen]; omega, fun hpos => ?_⟩, .inr ⟨_, _, by rw [hlen]⟩⟩
  rw [hlen] at hpos
  obtain ⟨g, o, e2, hg, hr⟩ := hr (by omega)
  rw [e2] at e1
  simp only [Option.some.injEq] at e1
  subst e1
  refine ⟨g, o + k, by rw [add_off], hg, fun j hj => ?_⟩
  rw [hlen] at hj
  rw [Nat.add_assoc, hr (k + j) (by omega)]
  unfold bytesV
  rw [List.getElem?_map, List.getElem?_map, List.getElem?_drop]
theorem ArgB.empty (w : World) (ad : Addr) (c : Nat) : ArgB w (.slice (some ad) 0 c) [] := ⟨Rd.nil _ _ _ _ _, .inr ⟨ad, c, rfl⟩⟩
theorem feedF_step {f : Nat} {l : List UInt8} {s n : Nat} (hm : measF l = (s, n, 0)) (hs : s ≠ 0) (hf : s + n ≤ l.length) : feedF (f + 1) l = (((l.drop s).take n) :: (feedF f (l.drop (s + n))).1, (feedF f (l.drop (s + n))).2) := by
  rw [feedF, hm]
  dsimp only
  rw [if_neg (by simp), if_neg (by omega)]
theorem feedF_stop {f : Nat} {l : List UInt8} {s n : Nat} (hm : measF l = (s, n, 0)) (hs : s = 0 ∨ l.length < s + n) : feedF f l = ([], l, 0) := by
  cases f with
  | zero => rfl
  | succ f =>
    rw [feedF, hm]
    dsimp only
    rw [if_neg (by simp), if_pos hs]
theorem feedF_bad {f : Nat} {l : List UInt8} {s n e : Nat} (hm : measF l = (s, n, e)) (he : e ≠ 0) (hf : l.length ≤ f) : feedF f l = ([], [], e) := by
  cases f with
  | zero =>
    have : l = [] := List.eq_nil_of_length_eq_zero (by omega)
    subst this
    have h0 : measF [] = (0, 0, 0) := by decide +kernel
    rw [h0] at hm
    simp at hm
    omega
  | succ f =>
    rw [feedF, hm]
    dsimp only
    rw [if_pos he]
end Go.Proofs.YtphnplpgeoleeaaDoor
