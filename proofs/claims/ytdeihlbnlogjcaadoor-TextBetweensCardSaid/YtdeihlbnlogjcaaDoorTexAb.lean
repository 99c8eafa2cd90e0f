/- What the reference's Between says is what text's Between says: plain mathematics. The reference's Between; the walk of TextBetweens. The walk of TextBetweens. -/
import Derived.Test.YtdeihlbnlogjcaaDoorTexS
import Derived.Test.YtdeihlbnlogjcaaDoorTexY
import Derived.Test.YtdeihlbnlogjcaaDoorUtfR
import Derived.Deep.CutRange
namespace Go.Proofs.YtdeihlbnlogjcaaDoor
open Go.RowKit Go.Lib Go.Shelf
set_option linter.unusedVariables false

/-! ### the runes that two lists begin with -/
def comI : List Int → List Int → Nat
  | a :: l, b :: m => if a = b then comI l m + 1 else 0
  | _, _ => 0
theorem comI_le : ∀ l m : List Int, comI l m ≤ l.length ∧ comI l m ≤ m.length
  | [], _ => ⟨Nat.zero_le _, Nat.zero_le _⟩
  | _ :: _, [] => ⟨Nat.zero_le _, Nat.zero_le _⟩
  | a :: l, b :: m => by
    have := comI_le l m
    unfold comI
    split <;> simp <;> omega
theorem comI_take : ∀ (l m : List Int) (k : Nat), k ≤ comI l m → l.take k = m.take k
  | [], m, k, h => by
    have : k = 0 := by simpa [comI] using h
    subst this
    simp
  | _ :: _, [], k, h => by
    have : k = 0 := by simpa [comI] using h
    subst this
    simp
  | a :: l, b :: m, 0, _ => by simp
  | a :: l, b :: m, k + 1, h => by
    unfold comI at h
    split at h
    · rename_i e
      rw [List.take_succ_cons, List.take_succ_cons, e, comI_take l m k (by omega)]
    · omega
theorem comI_next : ∀ (l m : List Int) (k : Nat), k ≤ comI l m → (k < comI l m ↔ k < l.length ∧ k < m.length ∧ l[k]? = m[k]?)
  | [], m, k, h => by simp [comI]
  | _ :: _, [], k, h => by simp [comI]
  | a :: l, b :: m, 0, _ => by
    unfold comI
    by_cases e : a = b
    · rw [if_pos e]
      simp [e]
    · rw [if_neg e]
      simp [e]
  | a :: l, b :: m, k + 1, h => by
    unfold comI at h ⊢
    by_cases e : a = b
    · rw [if_pos e] at h ⊢
      have := comI_next l m k (by omega)
      simp only [List.length_cons, List.getElem?_cons_succ]
      constructor
      · intro h1
        have := this.1 (by omega)
        exact ⟨by omega, by omega, this.2.2⟩
      · rintro ⟨a1, a2, a3⟩
        have := this.2 ⟨by omega, by omega, a3⟩
        omega
    · rw [if_neg e] at h
      omega
theorem comI_mono {l m : List Int} {k : Nat} (h1 : k ≤ l.length) (h2 : k ≤ m.length) (h : l.take k = m.take k) : k ≤ comI l m := by
  induction l generalizing m k with
  | nil =>
    have : k = 0 := by simpa using h1
    omega
  | cons a l ih =>
    cases k with
    | zero => omega
    | succ k =>
      cases m with
      | nil => simp at h2
      | cons b m =>
        rw [List.take_succ_cons, List.take_succ_cons, List.cons.injEq] at h
        unfold comI
        rw [if_pos h.1]
        have := ih (m := m) (k := k) (by simpa using h1) (by simpa using h2) h.2
        omega
def sufI (l m : List Int) : Nat := comI l.reverse m.reverse
theorem sufI_le (l m : List Int) : sufI l m ≤ l.length ∧ sufI l m ≤ m.length := by
  have := comI_le l.reverse m.reverse
  rw [List.length_reverse, List.length_reverse] at this
  exact this
theorem sufI_drop (l m : List Int) : l.drop (l.length - sufI l m) = m.drop (m.length - sufI l m) := by
  have h := comI_take l.reverse m.reverse (sufI l m) (Nat.le_refl _)
  rw [List.take_reverse, List.take_reverse] at h
  exact List.reverse_inj.1 h
theorem sufI_max {l m a b c : List Int} (h1 : l = a ++ c) (h2 : m = b ++ c) : c.length ≤ sufI l m := by
  subst h1 h2
  refine comI_mono (by simp) (by simp) ?_
  rw [List.reverse_append, List.reverse_append, List.take_left' (by simp), List.take_left' (by simp)]

/-! ### fronts and ends of texts, in runes -/
section
variable (L M : List UInt8) (hL : validD L = true) (hM : validD M = true)
include hL hM
theorem front_runes_eq : frontB L M = (Ut.encs ((Ut.runesF L).take (comI (Ut.runesF L) (Ut.runesF M)))).length ∧ Ut.runesF (L.drop (frontB L M)) = (Ut.runesF L).drop (comI (Ut.runesF L) (Ut.runesF M)) ∧ Ut.runesF (M.drop (frontB L M)) = (Ut.runesF M).drop (comI (Ut.runesF L) (Ut.runesF M)) := by
  obtain ⟨l1, l2, -⟩ := Ut.valid_all L hL
  obtain ⟨m1, m2, -⟩ := Ut.valid_all M hM
  obtain ⟨rs, hrs⟩ : ∃ rs, rs = Ut.runesF L := ⟨_, rfl⟩
  obtain ⟨ts, hts⟩ : ∃ rs, rs = Ut.runesF M := ⟨_, rfl⟩
  rw [← hrs] at l1 l2 ⊢
  rw [← hts] at m1 m2 ⊢
  obtain ⟨n, hn⟩ : ∃ n, n = comI rs ts := ⟨_, rfl⟩
  rw [← hn]
  have hle := comI_le rs ts
  rw [← hn] at hle
  have htk := comI_take rs ts n (by rw [hn]; exact Nat.le_refl _)
  obtain ⟨f1, f2, f3, f4⟩ := valid_front rs l2 (rs.take n) (rs.drop n) (List.take_append_drop n rs).symm
  obtain ⟨g1, -, -, g4⟩ := valid_front ts m2 (ts.take n) (ts.drop n) (List.take_append_drop n ts).symm
  rw [l1] at f1 f4
  rw [m1, ← htk] at g1 g4
  obtain ⟨s1, s2, s3, s4, s5⟩ := front_spec L M hL hM
  have hge : (Ut.encs (rs.take n)).length ≤ frontB L M := front_max L M hL hM _ f4 g4 (by rw [f1, g1]) (by rw [f1]; exact f2)
  have hp1 := (front_runes L _ s4).1
  have hp2 := (front_runes M _ s5).1
  rw [← hrs] at hp1
  rw [← hts, ← s3] at hp2
  obtain ⟨p, hp⟩ : ∃ p, p = Ut.runesF (L.take (frontB L M)) := ⟨_, rfl⟩
  rw [← hp] at hp1 hp2
  have hpe := (Ut.valid_all _ s4).1
  rw [← hp] at hpe
  have hpl : p.length ≤ n := by
    rw [hn]
    refine comI_mono (by rw [hp1]; simp) (by rw [hp2]; simp) ?_
    rw [hp1, hp2, List.take_left, List.take_left]
  have hfl : frontB L M = (Ut.encs p).length := by
    have := congrArg List.length hpe
    rw [List.length_take, Nat.min_eq_left s1] at this
    exact this.symm
  have hpn : p = rs.take n := by
    have e1 : rs.take p.length = p := by rw [hp1, List.take_left]
    have e2 : rs.take n = p ++ (rs.drop p.length).take (n - p.length) := by
      conv => lhs; rw [show n = p.length + (n - p.length) by omega, List.take_add, e1]
    have hll : (Ut.encs (rs.take n)).length = (Ut.encs p).length + (Ut.encs ((rs.drop p.length).take (n - p.length))).length := by
      rw [e2, Ut.encs_app, List.length_append]
    have hz : (Ut.encs ((rs.drop p.length).take (n - p.length))).length = 0 := by omega
    cases hq : (rs.drop p.length).take (n - p.length) with
    | nil => rw [e2, hq, List.append_nil]
    | cons r q =>
      exfalso
      have hr : r ∈ rs := List.mem_of_mem_drop (List.mem_of_mem_take (by rw [hq]; simp))
      have := (Ut.enc_len r (l2 r hr)).1
      rw [hq, Ut.encs_cons, List.length_append] at hz
      omega
  refine ⟨by rw [hfl, hpn], ?_, ?_⟩
  · conv => rhs; rw [hp1]
    rw [List.drop_left' (by rw [hpn, List.length_take]; omega)]
  · conv => rhs; rw [hp2]
    rw [List.drop_left' (by rw [hpn, List.length_take]; omega)]
theorem end_runes_eq (hv : validD (M.take (M.length - endB L M)) = true) : endB L M = (Ut.encs ((Ut.runesF L).drop ((Ut.runesF L).length - sufI (Ut.runesF L) (Ut.runesF M)))).length ∧
    L.take (L.length - endB L M) = Ut.encs ((Ut.runesF L).take ((Ut.runesF L).length - sufI (Ut.runesF L) (Ut.runesF M))) ∧ M.take (M.length - endB L M) = Ut.encs ((Ut.runesF M).take ((Ut.runesF M).length - sufI (Ut.runesF L) (Ut.runesF M))) := by
  obtain ⟨l1, l2, -⟩ := Ut.valid_all L hL
  obtain ⟨m1, m2, -⟩ := Ut.valid_all M hM
  obtain ⟨s1, s2, s3, s4⟩ := end_spec L M hL
  obtain ⟨rs, hrs⟩ : ∃ rs, rs = Ut.runesF L := ⟨_, rfl⟩
  obtain ⟨ts, hts⟩ : ∃ rs, rs = Ut.runesF M := ⟨_, rfl⟩
  have hp1 := (front_runes L _ s4).1
  have hp2 := (front_runes M _ hv).1
  rw [← hrs] at l1 l2 hp1 ⊢
  rw [← hts] at m1 m2 ⊢
  rw [← hts, ← s3] at hp2
  obtain ⟨m, hm⟩ : ∃ n, n = sufI rs ts := ⟨_, rfl⟩
  rw [← hm]
  have hle := sufI_le rs ts
  have hdr := sufI_drop rs ts
  rw [← hm] at hle hdr
  obtain ⟨c, hc⟩ : ∃ c, c = rs.drop (rs.length - m) := ⟨_, rfl⟩
  obtain ⟨A, hA⟩ : ∃ A, A = rs.take (rs.length - m) := ⟨_, rfl⟩
  obtain ⟨B, hB⟩ : ∃ A, A = ts.take (ts.length - m) := ⟨_, rfl⟩
  have hcl : c.length = m := by rw [hc, List.length_drop]; omega
  have hrc : rs = A ++ c := by rw [hc, hA, List.take_append_drop]
  have htc : ts = B ++ c := by rw [hc, hdr, hB, List.take_append_drop]
  rw [← hA, ← hB]
  obtain ⟨f1, f2, f3, f4⟩ := valid_front rs l2 _ c hrc
  obtain ⟨g1, g2, g3, g4⟩ := valid_front ts m2 _ c htc
  rw [l1] at f1 f4
  rw [m1] at g1 g4
  have hLA : L = Ut.encs A ++ Ut.encs c := by rw [← l1, ← Ut.encs_app, ← hrc]
  have hMB : M = Ut.encs B ++ Ut.encs c := by rw [← m1, ← Ut.encs_app, ← htc]
  have hLl : L.length = (Ut.encs A).length + (Ut.encs c).length := by
    have := congrArg List.length hLA
    rwa [List.length_append] at this
  have hMl : M.length = (Ut.encs B).length + (Ut.encs c).length := by
    have := congrArg List.length hMB
    rwa [List.length_append] at this
  have hLd : L.drop (L.length - (Ut.encs c).length) = Ut.encs c := by
    rw [hLl, Nat.add_sub_cancel]
    have := congrArg (List.drop (Ut.encs A).length) hLA
    rwa [List.drop_left] at this
  have hMd : M.drop (M.length - (Ut.encs c).length) = Ut.encs c := by
    rw [hMl, Nat.add_sub_cancel]
    have := congrArg (List.drop (Ut.encs B).length) hMB
    rwa [List.drop_left] at this
  have hge : (Ut.encs c).length ≤ endB L M := end_max L M hL _ (by omega) (by omega) (by rw [hLd, hMd]) (by rw [hLl, Nat.add_sub_cancel, f1]; exact f2)
  obtain ⟨D, hD⟩ : ∃ D, D = L.drop (L.length - endB L M) := ⟨_, rfl⟩
  rw [← hD] at hp1 hp2
  have hDv : validD D = true := by
    rw [hD, ← (front_runes L _ s4).2]
    exact hL
  have hDl : D.length = endB L M := by
    rw [hD, List.length_drop]
    omega
  have hDe := (Ut.valid_all D hDv).1
  have hmx : (Ut.runesF D).length ≤ m := by
    rw [hm]
    exact sufI_max hp1 hp2
  have heq : endB L M = (Ut.encs c).length := by
    refine Nat.le_antisymm ?_ hge
    have e1 : c = c.take (c.length - (Ut.runesF D).length) ++ Ut.runesF D := by
      have e2 : rs.drop (rs.length - (Ut.runesF D).length) = Ut.runesF D := by
        conv => lhs; rw [hp1, List.length_append, Nat.add_sub_cancel, List.drop_left]
      have e3 : c.drop (c.length - (Ut.runesF D).length) = Ut.runesF D := by
        have h : c.drop (c.length - (Ut.runesF D).length) = rs.drop (rs.length - (Ut.runesF D).length) := by
          rw [hcl, hc, List.drop_drop]
          congr 1
          omega
        rw [h]
        exact e2
      conv => lhs; rw [← List.take_append_drop (c.length - (Ut.runesF D).length) c, e3]
    rw [← hDl, ← hDe, e1, Ut.encs_app, List.length_append]
    omega
  refine ⟨by rw [← hc]; exact heq, ?_, ?_⟩
  · rw [heq, hLl, Nat.add_sub_cancel, f1]
  · rw [heq, hMl, Nat.add_sub_cancel, g1]
end
/-- the reference's parts are the parts of text's Between. -/
theorem bt_runes (s t : ByteArray) (hs : validD s.data.toList = true) (ht : validD t.data.toList = true) (rs ts : List Int) (hrs : rs = Ut.runesF s.data.toList) (hts : ts = Ut.runesF t.data.toList) (n m : Nat) (hn : n = comI rs ts) (hm : m = sufI (rs.drop n) (ts.drop n)) :
    btF s t = (Ut.encs (rs.take n)).length ∧ s.size - btE s t = (Ut.encs (rs.take (rs.length - m))).length ∧ (⟨(Ut.encs ((ts.drop n).take (ts.length - m - n))).toArray⟩ : ByteArray) = t.extract (btF s t) (t.size - btE s t) ∧ n + m ≤ rs.length ∧ n + m ≤ ts.length := by
  have hLs : s.data.toList.length = s.size := by simp
  have hLt : t.data.toList.length = t.size := by simp
  have H := bt_spec s t hs ht
  obtain ⟨q1, q2, q3⟩ := front_runes_eq _ _ hs ht
  rw [← hrs, ← hts, ← hn] at q1 q2 q3
  obtain ⟨f, hf⟩ : ∃ f, f = btF s t := ⟨_, rfl⟩
  have hff : frontB s.data.toList t.data.toList = f := by rw [hf]; rfl
  obtain ⟨e, he⟩ : ∃ f, f = btE s t := ⟨_, rfl⟩
  have hee : endB (s.data.toList.drop f) (t.data.toList.drop f) = e := by rw [he, hf]; rfl
  have hv1 := H.v1
  have hv3 := H.v3
  have hv4 := H.v4
  have hf1 := H.f1
  have hf2 := H.f2
  rw [← hf] at hv1 hv4
  rw [← hf, ← he] at hv3 hf1 hf2
  rw [hff] at q1 q2 q3
  have d1 : validD (s.data.toList.drop f) = true := by rw [← (front_runes _ f hv1).2]; exact hs
  have d2 : validD (t.data.toList.drop f) = true := by rw [← (front_runes _ f hv4).2]; exact ht
  have hx : (t.extract f (t.size - e)).data.toList = (t.data.toList.drop f).take (t.size - e - f) := by
    rw [ByteArray.data_extract, Array.toList_extract, List.extract_eq_take_drop]
  have hel : (t.data.toList.drop f).length - endB (s.data.toList.drop f) (t.data.toList.drop f) = t.size - e - f := by
    rw [hee, List.length_drop, hLt]
    omega
  obtain ⟨r1, r2, r3⟩ := end_runes_eq _ _ d1 d2 (by rw [hel, ← hx]; exact hv3)
  rw [q2, q3, ← hm] at r1 r2 r3
  have hc1 := comI_le rs ts
  rw [← hn] at hc1
  have hc2 := sufI_le (rs.drop n) (ts.drop n)
  rw [← hm, List.length_drop, List.length_drop] at hc2
  rw [hel, ← hx] at r3
  rw [← hf, ← he]
  refine ⟨q1, ?_, ?_, by omega, by omega⟩
  · have h1 := congrArg List.length r2
    rw [hee, List.length_take, List.length_drop, hLs, List.length_drop] at h1
    have h2 : (Ut.encs (rs.take (rs.length - m))).length = (Ut.encs (rs.take n)).length + (Ut.encs ((rs.drop n).take (rs.length - n - m))).length := by
      rw [← List.length_append, ← Ut.encs_app, ← List.take_add]
      congr 3
      omega
    omega
  · apply ByteArray.ext
    apply Array.ext'
    rw [r3, List.length_drop, Nat.sub_right_comm]
end Go.Proofs.YtdeihlbnlogjcaaDoor
namespace Go.Proofs.YtdeihlbnlogjcaaDoor
open Go.RowKit Go.Lib Go.Shelf
set_option maxRecDepth 100000
set_option linter.unusedVariables false

theorem intsV_at (l : List Int) (k : Nat) (h : k < l.length) : (intsV l)[k]? = some (.int .i64 l[k]) := by
  unfold intsV
  rw [List.getElem?_map, List.getElem?_eq_getElem h]
  rfl
theorem Ints.form {B : Nat} {l : List Int} {v : Value} {w : World} (h : Ints B l v w) : ∃ g c, v = .slice (some ⟨g, 0, none⟩) l.length c ∧ l.length ≤ c ∧ g < w.heap.size ∧ ∀ j, j < l.length → w.cell? ⟨g, j, none⟩ = (intsV l)[j]? := by
  have ho := h.2
  rcases ho.2 with ⟨e, _⟩ | ⟨g, cap, cur, rfl, _, hg, hn, _⟩
  · exact absurd e h.1
  · exact ⟨g, cap, rfl, hn, (Array.getElem?_eq_some_iff.1 hg).1, fun j hj => ho.cellAt j (by omega)⟩
theorem rd_ints {w : World} {g o n c : Nat} {l : List Int} (a : Nat) (hg : g < w.heap.size) (hr : ∀ j, j < l.length → w.cell? ⟨g, j, none⟩ = (intsV l)[j]?) (hn : a + n ≤ l.length) (hc : n ≤ c) (ho : 0 < n → o = a) : Rd w w.heap.size 1 (.slice (some ⟨g, o, none⟩) n c) ((l.drop a).take n).length (intsV ((l.drop a).take n)) := by
  have hl : ((l.drop a).take n).length = n := by rw [List.length_take, List.length_drop]; omega
  refine ⟨by rw [intsV_len, hl, Nat.mul_one], _, _, by rw [hl], by omega, fun h0 => ⟨g, o, rfl, hg, fun j hj => ?_⟩⟩
  rw [hl] at h0 hj
  rw [ho h0, hr (a + j) (by omega)]
  unfold intsV
  rw [List.getElem?_map, List.getElem?_map, List.getElem?_take, if_pos (by omega), List.getElem?_drop]
theorem rev_at (l : List Int) (n k : Nat) (h : k < l.length - n) : (l.drop n).reverse[k]? = some (l[l.length - 1 - k]'(by omega)) := by
  rw [List.getElem?_reverse (by rw [List.length_drop]; exact h), List.length_drop, List.getElem?_drop]
  rw [show n + (l.length - n - 1 - k) = l.length - 1 - k by omega, List.getElem?_eq_getElem (by omega)]
/-- the common front, rune by rune. -/
structure FrC (rs ts : List Int) (C : Nat) : Prop where
  eq : C = comI rs ts
theorem text_of (l : List Int) (h : ∀ r ∈ l, Ut.isR r = true) {w w' : World} {e : Ending} (hp : TextPost l w e w') : e = .returned (.tuple #[.string ⟨⟨Ut.encs l⟩⟩, .int .i64 0]) ∧ Below w.heap.size w w' := by
  obtain ⟨h1, h2⟩ := hp
  rw [if_pos (isR_all.1 h)] at h1
  exact ⟨h1, h2⟩
set_option maxHeartbeats 3000000 in
theorem rbetween7_any (s t : ByteArray) (w : World) (hs : s.size ≤ 1099511627) (ht : t.size ≤ 1099511627) (vs_ : validD s.data.toList = true) (vt : validD t.data.toList = true) :
    Calls Tryd.prog 51 #[.string s, .string t] w fun e w' => e = .returned (.tuple #[etV (btX s t), .int .i64 0]) ∧ Below w.heap.size w w' := by
  obtain ⟨rs, hrs⟩ : ∃ rs, rs = Ut.runesF s.data.toList := ⟨_, rfl⟩
  obtain ⟨ts, hts⟩ : ∃ rs, rs = Ut.runesF t.data.toList := ⟨_, rfl⟩
  obtain ⟨n, hn⟩ : ∃ n, n = comI rs ts := ⟨_, rfl⟩
  obtain ⟨m, hm⟩ : ∃ m0, m0 = sufI (rs.drop n) (ts.drop n) := ⟨_, rfl⟩
  obtain ⟨e1, e2, e3, e4, e5⟩ := bt_runes s t vs_ vt rs ts hrs hts n m hn hm
  have HBT := Lib.hid (And.intro e1 (And.intro e2 e3))
  have HH := Lib.hid (bt_spec s t vs_ vt)
  have HV := Lib.hid (And.intro vs_ vt)
  have hir := (Ut.valid_all _ vs_).2.1
  have hit := (Ut.valid_all _ vt).2.1
  rw [← hrs] at hir
  rw [← hts] at hit
  have HIR := Lib.hid hir
  have HIT := Lib.hid hit
  have hcr := runes_count _ s.data.toList (Nat.le_refl _)
  have hct := runes_count _ t.data.toList (Nat.le_refl _)
  rw [← hrs, show s.data.toList.length = s.size by simp] at hcr
  rw [← hts, show t.data.toList.length = t.size by simp] at hct
  have HR1 := Lib.hid (fun W => rrunes_any first_c s W (by omega))
  have HR2 := Lib.hid (fun W => rrunes_any first_c t W (by omega))
  obtain ⟨a, ha⟩ : ∃ a, a = rs.length := ⟨_, rfl⟩
  obtain ⟨b, hb⟩ : ∃ a, a = ts.length := ⟨_, rfl⟩
  have HA := Lib.hid (And.intro ha hb)
  have HN := Lib.hid (show ∀ k, k ≤ n → (k < n ↔ k < a ∧ k < b ∧ rs[k]? = ts[k]?) from fun k hk => by
    have := comI_next rs ts k (hn ▸ hk)
    rw [← hn, ← ha, ← hb] at this
    exact this)
  have HM := Lib.hid (show ∀ k, k ≤ m → (k < m ↔ k < a - n ∧ k < b - n ∧ (rs.drop n).reverse[k]? = (ts.drop n).reverse[k]?) from fun k hk => by
    have := comI_next (rs.drop n).reverse (ts.drop n).reverse k (by rw [hm] at hk; exact hk)
    rw [List.length_reverse, List.length_reverse, List.length_drop, List.length_drop, ← ha, ← hb, show comI (rs.drop n).reverse (ts.drop n).reverse = m by rw [hm]; rfl] at this
    exact this)
  have HRS := Lib.hid (And.intro hrs hts)
  obtain ⟨W0, hW0⟩ : ∃ W0, W0 = w.alloc (.cells #[.int .i64 0, .int .i64 0, .int .i64 0, .int .i64 0, .string ⟨#[]⟩] 60) := ⟨_, rfl⟩
  have hA0 : Below w.heap.size w W0 := by rw [hW0]; exact (Below.refl _ w).alloc (Nat.le_refl _) _
  have hg0 : w.heap.size < W0.heap.size := by rw [hW0]; simp
  have HA0 := Lib.hid hA0
  have HZ := Lib.hid (fun W (h : Below W0.heap.size W0 W) => FiveB.below (W := W0) (W' := W) (g := w.heap.size) (v0 := .int .i64 0) (v1 := .int .i64 0) (v2 := .int .i64 0) (v3 := .int .i64 0) (v4 := .string ⟨#[]⟩) ⟨by rw [hW0]; exact heap_alloc_new w _⟩ h hg0)
  have HW0 := Lib.hid hW0
  rw [← ha] at hcr e4
  rw [← hb] at hct e5
  clear hrs hts hn hm hir hit ha hb hA0 hW0 e1 e2 e3 vs_ vt
  go_enter Tryd.func51, Tryd.ntmps51
  go_wp2_with fail
  rw [← HW0.out]
  refine (HR1.out W0).mono ?_
  rintro e w1 ⟨h, hb1⟩
  rw [if_pos HV.out.1, ← HRS.out.1] at h
  obtain ⟨v1, rfl, hi1⟩ := h
  have HB1 := Lib.hid hb1
  clear hb1
  obtain ⟨g1, c1, rfl, hc1, hg1, hr1⟩ := hi1.form
  rw [← HA.out.1] at hc1 hr1 ⊢
  have HC1 := Lib.hid hr1
  clear hi1 hr1
  go_wp2_with fail
  refine (HR2.out w1).mono ?_
  rintro e w2 ⟨h, hb2⟩
  rw [if_pos HV.out.2, ← HRS.out.2] at h
  obtain ⟨v2, rfl, hi2⟩ := h
  have HB2 := Lib.hid (HB1.out.trans (hb2.mono HB1.out.size))
  have hg1' : g1 < w2.heap.size := by have := hb2.size; omega
  have HC12 := Lib.hid (show ∀ j, j < a → w2.cell? ⟨g1, j, none⟩ = (intsV rs)[j]? from fun j hj => (hb2.cell (p := ⟨g1, j, none⟩) hg1).trans (HC1.out j hj))
  clear hb2
  obtain ⟨g2, c2, rfl, hc2, hg2, hr2⟩ := hi2.form
  rw [← HA.out.2] at hc2 hr2 ⊢
  have HC2 := Lib.hid hr2
  clear hi2 hr2
  go_wp2
  go_loopw [10] (fun i wr => ∃ k : Nat, k ≤ n ∧ i = .int .i64 k ∧ RowKit.Hid (DrewQ w2 wr)) (fun i _ => n + 1 - (RowKit.intOf i).toNat)
  case atStart => exact ⟨0, by omega, rfl, DrewQ.refl w2⟩
  case round =>
    obtain ⟨k, hk, rfl, HD⟩ := hrel
    by_cases hkn : k < n
    · obtain ⟨h1, h2, h3⟩ := (HN.out k hk).1 hkn
      have hl1 : k < rs.length := by rw [← HA.out.1]; exact h1
      have hl2 : k < ts.length := by rw [← HA.out.2]; exact h2
      rw [List.getElem?_eq_getElem hl1, List.getElem?_eq_getElem hl2, Option.some.injEq] at h3
      obtain ⟨x, hx⟩ : ∃ x, x = rs[k] := ⟨_, rfl⟩
      have d1 : wr.cell? ⟨g1, k, none⟩ = some (.int .i64 x) := by
        obtain ⟨q, rfl⟩ := HD.out
        rw [hx, ← intsV_at rs k hl1]
        exact HC12.out k h1
      have d2 : wr.cell? ⟨g2, k, none⟩ = some (.int .i64 x) := by
        obtain ⟨q, rfl⟩ := HD.out
        rw [hx, h3, ← intsV_at ts k hl2]
        exact HC2.out k h2
      have hi1 : (k : Int) < a := by omega
      have hi2 : (k : Int) < b := by omega
      clear h3 hl1 hl2 hx
      go_wp2
      go_quiet (fail)
      go_wp2
      go_roundw
      case rel => exact ⟨k + 1, by omega, by go_num, HD.out.more _⟩
      case measure => (simp [RowKit.intOf] <;> omega)
    · have hkn2 : k = n := by omega
      have hno : ¬ (k < a ∧ k < b ∧ rs[k]? = ts[k]?) := fun h => hkn ((HN.out k hk).2 h)
      have h3 : k ≥ a ∨ (k < a ∧ k ≥ b) ∨ ∃ x y : Int, k < a ∧ k < b ∧ wr.cell? ⟨g1, k, none⟩ = some (.int .i64 x) ∧ wr.cell? ⟨g2, k, none⟩ = some (.int .i64 y) ∧ (x == y) = false := by
        rcases Nat.lt_or_ge k a with h1 | h1
        · rcases Nat.lt_or_ge k b with h2 | h2
          · right; right
            have hl1 : k < rs.length := by rw [← HA.out.1]; exact h1
            have hl2 : k < ts.length := by rw [← HA.out.2]; exact h2
            refine ⟨rs[k], ts[k], h1, h2, ?_, ?_, ?_⟩
            · obtain ⟨q, rfl⟩ := HD.out
              rw [← intsV_at rs k hl1]
              exact HC12.out k h1
            · obtain ⟨q, rfl⟩ := HD.out
              rw [← intsV_at ts k hl2]
              exact HC2.out k h2
            · cases hb : (rs[k] == ts[k])
              · rfl
              · exfalso
                refine hno ⟨h1, h2, ?_⟩
                rw [List.getElem?_eq_getElem hl1, List.getElem?_eq_getElem hl2, beq_iff_eq.1 hb]
          · exact .inr (.inl ⟨h1, h2⟩)
        · exact .inl h1
      clear hkn hno
      subst hkn2
      go_upto_region 6 with fail
      go_cut [56] from 36 to 56 (fun c wx => c = .bool false ∧ RowKit.Hid (DrewQ w2 wx))
      case first =>
        rcases h3 with h1 | ⟨h1, h2⟩ | ⟨x, y, h1, h2, d1, d2, hxy⟩
        · have hi1 : decide ((k : Int) < a) = false := decide_eq_false (by omega)
          have hi1' : decide (k < a) = false := decide_eq_false (by omega)
          go_quiet (fail)
          go_wp2
          go_meet
          exact ⟨rfl, HD.out.more _⟩
        · have hi1 : (k : Int) < a := by omega
          have hi2 : decide ((k : Int) < b) = false := decide_eq_false (by omega)
          have hi2' : decide (k < b) = false := decide_eq_false (by omega)
          go_quiet (fail)
          go_wp2
          go_meet
          exact ⟨rfl, HD.out.more _⟩
        · have hi1 : (k : Int) < a := by omega
          have hi2 : (k : Int) < b := by omega
          go_quiet (fail)
          go_wp2
          go_meet
          exact ⟨rfl, HD.out.more _⟩
      case rest =>
        obtain ⟨rfl, HD2⟩ := hcut
        have hkk : k ≤ k := Nat.le_refl k
        clear HD h3
        go_wp2
        go_loopw [11] (fun i wr => ∃ j : Nat, j ≤ m ∧ i = .int .i64 j ∧ RowKit.Hid (DrewQ w2 wr)) (fun i _ => m + 1 - (RowKit.intOf i).toNat)
        case atStart => exact ⟨0, by omega, rfl, HD2.out⟩
        case round =>
          obtain ⟨j, hj, rfl, HD3⟩ := hrel
          have ham : (j : Int) ≤ (a : Int) - k := by omega
          by_cases hjm : j < m
          · obtain ⟨h1, h2, h3⟩ := (HM.out j hj).1 hjm
            have hA1 := HA.out.1
            have hA2 := HA.out.2
            rw [rev_at rs k j (by omega), rev_at ts k j (by omega), Option.some.injEq] at h3
            obtain ⟨x, hx⟩ : ∃ x, x = rs[rs.length - 1 - j]'(by omega) := ⟨_, rfl⟩
            obtain ⟨ia, hia⟩ : ∃ ia : Nat, ia = a - 1 - j := ⟨_, rfl⟩
            obtain ⟨ib, hib⟩ : ∃ ia : Nat, ia = b - 1 - j := ⟨_, rfl⟩
            have d1 : wr.cell? ⟨g1, ia, none⟩ = some (.int .i64 x) := by
              obtain ⟨q, rfl⟩ := HD3.out
              show w2.cell? _ = _
              rw [HC12.out ia (by omega), intsV_at rs ia (by omega), hx]
              congr 2
              simp only [hia, hA1]
            have d2 : wr.cell? ⟨g2, ib, none⟩ = some (.int .i64 x) := by
              obtain ⟨q, rfl⟩ := HD3.out
              show w2.cell? _ = _
              rw [HC2.out ib (by omega), intsV_at ts ib (by omega), hx, h3]
              congr 2
              simp only [hib, hA2]
            have hi1 : (j : Int) < (a : Int) - k := by omega
            have hi2 : (j : Int) < (b : Int) - k := by omega
            have hia1 : (a : Int) - 1 - j = ia := by omega
            have hib1 : (b : Int) - 1 - j = ib := by omega
            have hia2 : ia < a := by omega
            have hib2 : ib < b := by omega
            have hia3 : (ia : Int) < a := by omega
            have hib3 : (ib : Int) < b := by omega
            clear h3 hA1 hA2 hx hia hib
            go_wp2
            go_quiet (fail)
            go_wp2
            go_roundw
            case rel => exact ⟨j + 1, by omega, by go_num, HD3.out.more _⟩
            case measure => (simp [RowKit.intOf] <;> omega)
          · have hjm2 : j = m := by omega
            have hno : ¬ (j < a - k ∧ j < b - k ∧ (rs.drop k).reverse[j]? = (ts.drop k).reverse[j]?) := fun h => hjm ((HM.out j hj).2 h)
            have h3 : j ≥ a - k ∨ (j < a - k ∧ j ≥ b - k) ∨ ∃ (ia ib : Nat) (x y : Int), j < a - k ∧ j < b - k ∧ ia = a - 1 - j ∧ ib = b - 1 - j ∧ wr.cell? ⟨g1, ia, none⟩ = some (.int .i64 x) ∧ wr.cell? ⟨g2, ib, none⟩ = some (.int .i64 y) ∧ (x == y) = false := by
              rcases Nat.lt_or_ge j (a - k) with h1 | h1
              · rcases Nat.lt_or_ge j (b - k) with h2 | h2
                · right; right
                  have hA1 := HA.out.1
                  have hA2 := HA.out.2
                  refine ⟨a - 1 - j, b - 1 - j, rs[rs.length - 1 - j]'(by omega), ts[ts.length - 1 - j]'(by omega), h1, h2, rfl, rfl, ?_, ?_, ?_⟩
                  · obtain ⟨q, rfl⟩ := HD3.out
                    show w2.cell? _ = _
                    rw [HC12.out (a - 1 - j) (by omega), intsV_at rs (a - 1 - j) (by omega)]
                    congr 2
                    simp only [hA1]
                  · obtain ⟨q, rfl⟩ := HD3.out
                    show w2.cell? _ = _
                    rw [HC2.out (b - 1 - j) (by omega), intsV_at ts (b - 1 - j) (by omega)]
                    congr 2
                    simp only [hA2]
                  · cases hb : (rs[rs.length - 1 - j]'(by omega) == ts[ts.length - 1 - j]'(by omega))
                    · rfl
                    · exfalso
                      refine hno ⟨h1, h2, ?_⟩
                      rw [rev_at rs k j (by omega), rev_at ts k j (by omega), beq_iff_eq.1 hb]
                · exact .inr (.inl ⟨h1, h2⟩)
              · exact .inl h1
            clear hjm hno
            subst hjm2
            go_upto_region 9 with fail
            go_cut [91] from 59 to 91 (fun c wx => c = .bool false ∧ RowKit.Hid (DrewQ w2 wx))
            case first =>
              rcases h3 with h1 | ⟨h1, h2⟩ | ⟨ia, ib, x, y, h1, h2, hia, hib, d1, d2, hxy⟩
              · have hi1 : decide ((j : Int) < (a : Int) - k) = false := decide_eq_false (by omega)
                go_quiet (fail)
                go_wp2
                go_meet
                exact ⟨rfl, HD3.out.more _⟩
              · have hi1 : (j : Int) < (a : Int) - k := by omega
                have hi2 : decide ((j : Int) < (b : Int) - k) = false := decide_eq_false (by omega)
                go_quiet (fail)
                go_wp2
                go_meet
                exact ⟨rfl, HD3.out.more _⟩
              · have hi1 : (j : Int) < (a : Int) - k := by omega
                have hi2 : (j : Int) < (b : Int) - k := by omega
                have hia1 : (a : Int) - 1 - j = ia := by omega
                have hib1 : (b : Int) - 1 - j = ib := by omega
                have hia2 : ia < a := by omega
                have hib2 : ib < b := by omega
                have hia3 : (ia : Int) < a := by omega
                have hib3 : (ib : Int) < b := by omega
                clear hia hib
                go_quiet (fail)
                go_wp2
                go_meet
                exact ⟨rfl, HD3.out.more _⟩
            case rest =>
              obtain ⟨rfl, HD4⟩ := hcut
              clear HD3 h3 HD2
              have hB2 : Below W0.heap.size W0 wc := by
                obtain ⟨q, rfl⟩ := HD4.out
                exact below_drewN HB2.out q
              have HBc := Lib.hid hB2
              have HCa := Lib.hid (show ∀ i, i < rs.length → wc.cell? ⟨g1, i, none⟩ = (intsV rs)[i]? by
                obtain ⟨q, rfl⟩ := HD4.out
                intro i hi
                exact HC12.out i (by rw [HA.out.1]; exact hi))
              have HCb := Lib.hid (show ∀ i, i < ts.length → wc.cell? ⟨g2, i, none⟩ = (intsV ts)[i]? by
                obtain ⟨q, rfl⟩ := HD4.out
                intro i hi
                exact HC2.out i (by rw [HA.out.2]; exact hi))
              have hgs : w2.heap.size ≤ wc.heap.size := by
                obtain ⟨q, rfl⟩ := HD4.out
                exact Nat.le_refl _
              clear hB2 HD4
              obtain ⟨f, hf⟩ : ∃ f, f = btF s t := ⟨_, rfl⟩
              obtain ⟨e0, he0⟩ : ∃ f, f = btE s t := ⟨_, rfl⟩
              have hfe1 := HH.out.f1
              have hfe2 := HH.out.f2
              rw [← hf, ← he0] at hfe1 hfe2
              have HFE := Lib.hid (And.intro hf he0)
              obtain ⟨X1, hX1⟩ : ∃ X : ByteArray, X = ⟨⟨Ut.encs ((rs.drop 0).take k)⟩⟩ := ⟨_, rfl⟩
              obtain ⟨p, hp⟩ : ∃ p : Nat, p = a - j := ⟨_, rfl⟩
              obtain ⟨q, hq⟩ : ∃ p : Nat, p = b - j := ⟨_, rfl⟩
              obtain ⟨X2, hX2⟩ : ∃ X : ByteArray, X = ⟨⟨Ut.encs ((rs.drop 0).take p)⟩⟩ := ⟨_, rfl⟩
              obtain ⟨X3, hX3⟩ : ∃ X : ByteArray, X = ⟨⟨Ut.encs ((ts.drop k).take (q - k))⟩⟩ := ⟨_, rfl⟩
              have hs1 : X1.size = f := by
                rw [hX1, List.drop_zero, hf, HBT.out.1]
                rfl
              obtain ⟨y, hy⟩ : ∃ y : Nat, y = s.size - e0 := ⟨_, rfl⟩
              have hys : y ≤ s.size := by omega
              have HY := Lib.hid hy
              have hs2 : X2.size = y := by
                rw [hX2, List.drop_zero, hy, he0, HBT.out.2.1, hp, HA.out.1]
                rfl
              have HX3 := Lib.hid (show X3 = t.extract f (t.size - e0) by
                rw [hX3, hf, he0, ← HBT.out.2.2, hq, HA.out.2])
              have hpi : (a : Int) - j = p := by omega
              have hqi : (b : Int) - j = q := by omega
              have hpa : p ≤ a := by omega
              have hpc : p ≤ c1 := by omega
              have hqb : q ≤ b := by omega
              have hqc : q ≤ c2 := by omega
              have hkq : k ≤ q := by omega
              have hka : k ≤ a := by omega
              have hkc : k ≤ c1 := by omega
              have HT1 := Lib.hid (fun W (hb : Below wc.heap.size wc W) => rtext_any (.slice (some ⟨g1, 0, none⟩) k c1) ((rs.drop 0).take k) W _ (Nat.le_refl _) (rd_ints 0 (by have := hb.size; omega) (fun i hi => (hb.cell (p := ⟨g1, i, none⟩) (by show g1 < _; omega)).trans (HCa.out i hi)) (by have := HA.out.1; omega) hkc (fun _ => rfl)) (by rw [List.length_take, List.length_drop]; have := HA.out.1; omega))
              have HT2 := Lib.hid (fun W (hb : Below wc.heap.size wc W) => rtext_any (.slice (some ⟨g1, 0, none⟩) p c1) ((rs.drop 0).take p) W _ (Nat.le_refl _) (rd_ints 0 (by have := hb.size; omega) (fun i hi => (hb.cell (p := ⟨g1, i, none⟩) (by show g1 < _; omega)).trans (HCa.out i hi)) (by have := HA.out.1; omega) hpc (fun _ => rfl)) (by rw [List.length_take, List.length_drop]; have := HA.out.1; omega))
              have HT3 := Lib.hid (show ∀ (o nn cc : Nat) (W : World), Below wc.heap.size wc W → q - k = nn → nn ≤ cc → (0 < nn → o = k) → Calls Tryd.prog 31 #[.slice (some ⟨g2, o, none⟩) nn cc] W (TextPost ((ts.drop k).take (q - k)) W) from fun o nn cc W hb hnn hcc ho => by
                subst hnn
                exact rtext_any (.slice (some ⟨g2, o, none⟩) (q - k) cc) ((ts.drop k).take (q - k)) W _ (Nat.le_refl _) (rd_ints k (by have := hb.size; omega) (fun i hi => (hb.cell (p := ⟨g2, i, none⟩) (by show g2 < _; omega)).trans (HCb.out i hi)) (by have := HA.out.2; omega) hcc ho) (by rw [List.length_take, List.length_drop]; have := HA.out.2; omega))
              have HI1 := Lib.hid (fun (l : List Int) (h : ∀ r ∈ l, r ∈ rs) (r : Int) (hr : r ∈ l) => HIR.out r (h r hr))
              have HI2 := Lib.hid (fun (l : List Int) (h : ∀ r ∈ l, r ∈ ts) (r : Int) (hr : r ∈ l) => HIT.out r (h r hr))
              have HX := Lib.hid (And.intro hX1 (And.intro hX2 hX3))
              clear hX1 hX2 hX3 hp hq hf he0 hy
              go_wp2_with fail
              refine (HT1.out wc (Below.refl _ _)).mono ?_
              rintro e x1 hpp
              obtain ⟨rfl, hb1⟩ := text_of _ (HI1.out _ (fun r h => List.mem_of_mem_drop (List.mem_of_mem_take h))) hpp
              rw [← HX.out.1]
              have HD1 := Lib.hid hb1
              clear hb1 hpp
              go_wp2_with fail
              refine (HT2.out x1 HD1.out).mono ?_
              rintro e x2 hpp
              obtain ⟨rfl, hb1⟩ := text_of _ (HI1.out _ (fun r h => List.mem_of_mem_drop (List.mem_of_mem_take h))) hpp
              rw [← HX.out.2.1]
              have HD2 := Lib.hid (HD1.out.trans (hb1.mono HD1.out.size))
              clear hb1 hpp
              by_cases hck : c2 = k
              case' pos =>
                subst hck
                go_wp2_with fail
                refine (HT3.out 0 0 0 x2 HD2.out (by omega) (by omega) (by omega)).mono ?_
              case' neg =>
                go_wp2_with fail
                refine (HT3.out k (q - k) (c2 - k) x2 HD2.out rfl (by omega) (fun _ => rfl)).mono ?_
              all_goals
                rintro e x3 hpp
                obtain ⟨rfl, hb1⟩ := text_of _ (HI2.out _ (fun r h => List.mem_of_mem_drop (List.mem_of_mem_take h))) hpp
                rw [← HX.out.2.2]
                have HB4 := Lib.hid (HBc.out.trans ((HD2.out.trans (hb1.mono HD2.out.size)).mono HBc.out.size))
                clear hb1 hpp
                obtain ⟨W4, hW4⟩ : ∃ W4, W4 = x3.alloc (.cells #[.int .i64 0, .int .i64 0, .int .i64 0, .int .i64 0, .string X3] 60) := ⟨_, rfl⟩
                have h5 : FiveB W4 x3.heap.size (.int .i64 0) (.int .i64 0) (.int .i64 0) (.int .i64 0) (.string X3) := by
                  rw [hW4]
                  exact ⟨heap_alloc_new x3 _⟩
                have HBW := Lib.hid (show Below W0.heap.size W0 W4 by rw [hW4]; exact HB4.out.alloc HB4.out.size _)
                have HP1 := Lib.hid (rplace7_any s f W4 hs)
                have H5 := Lib.hid h5
                have HW4 := Lib.hid hW4
                clear h5 hW4
                go_wp2_with fail
                rw [← HW4.out]
                refine HP1.out.mono ?_
                rintro e5 w5 ⟨rfl, hb5⟩
                have HB5 := Lib.hid (HBW.out.trans (hb5.mono HBW.out.size))
                have h5 := H5.out.below hb5 H5.out.lt
                obtain ⟨⟨d0, d1, d2, d3, d4⟩, u0, u1, u2, u3, u4⟩ := h5.cells
                have H55 := Lib.hid h5
                clear hb5 h5
                obtain ⟨l1, hl1⟩ : ∃ x, x = plL s.data.toList f := ⟨_, rfl⟩
                obtain ⟨k1, hk1⟩ : ∃ x, x = plC s.data.toList f := ⟨_, rfl⟩
                rw [← hl1, ← hk1]
                have HQ1 := Lib.hid (And.intro hl1 hk1)
                clear hl1 hk1
                obtain ⟨W5, hW5⟩ : ∃ W5, W5 = (w5.setCell ⟨x3.heap.size, 0, none⟩ (.int .i64 l1)).setCell ⟨x3.heap.size, 1, none⟩ (.int .i64 k1) := ⟨_, rfl⟩
                have hgg : W0.heap.size ≤ x3.heap.size := HB4.out.size
                have HBX := Lib.hid (show Below W0.heap.size W0 W5 by
                  rw [hW5]
                  exact (HB5.out.setCell (p := ⟨x3.heap.size, 0, none⟩) hgg _).setCell (p := ⟨x3.heap.size, 1, none⟩) hgg _)
                have H6 := Lib.hid (show FiveB W5 x3.heap.size (.int .i64 l1) (.int .i64 k1) (.int .i64 0) (.int .i64 0) (.string X3) by
                  rw [hW5]
                  exact ⟨blk_set (blk_set H55.out.blk _) _⟩)
                have HP2 := Lib.hid (rplace7_any s y W5 hs)
                have HW5 := Lib.hid hW5
                clear hW5
                go_wp2_with fail
                rw [← HW5.out]
                clear d0 d1 d2 d3 d4 u0 u1 u2 u3 u4
                refine HP2.out.mono ?_
                rintro e6 w6 ⟨rfl, hb6⟩
                have HB6 := Lib.hid (HBX.out.trans (hb6.mono HBX.out.size))
                have H7 := Lib.hid (H6.out.below hb6 H6.out.lt)
                have H0 := Lib.hid (HZ.out w6 HB6.out)
                clear hb6
                obtain ⟨⟨d0, d1, d2, d3, d4⟩, u0, u1, u2, u3, u4⟩ := H7.out.cells
                obtain ⟨⟨z0, z1, z2, z3, z4⟩, t0, t1, t2, t3, t4⟩ := H0.out.cells
                obtain ⟨l2, hl2⟩ : ∃ x, x = plL s.data.toList y := ⟨_, rfl⟩
                obtain ⟨k2, hk2⟩ : ∃ x, x = plC s.data.toList y := ⟨_, rfl⟩
                rw [← hl2, ← hk2]
                have HQ2 := Lib.hid (And.intro hl2 hk2)
                clear hl2 hk2
                have hne : ¬ x3.heap.size = w.heap.size := by omega
                have hne2 : ¬ w.heap.size = x3.heap.size := by omega
                go_wp2
                have hsL : s.data.toList.length = s.size := by simp
                have p1 := pl_at (n := f) HV.out.1 (by omega) (by have h := HH.out.v1; rw [← HFE.out.1] at h; exact h)
                have p2 := pl_at (n := y) HV.out.1 (by omega) (by have h := HH.out.v2; rw [← HFE.out.2, ← HY.out] at h; exact h)
                refine bodyPost_ret (v := .tuple #[.agg #[.int .i64 l1, .int .i64 k1, .int .i64 l2, .int .i64 k2, .string X3], .int .i64 0]) ?_ rfl ⟨?_, ?_⟩
                · refine results_cell_tmp rfl _ _ w.heap.size 60 #[.int .i64 l1, .int .i64 k1, .int .i64 l2, .int .i64 k2, .string X3] (0, 0) _ ?_ ?_ Tryd.underlying60 rfl infoEd5 _ ?_
                  · rfl
                  · exact five_put H0.out.blk hne2 _ _ _ _ _ _ _
                  · rfl
                · unfold etV btX
                  rw [← HFE.out.1, ← HFE.out.2, HX3.out, ← HY.out, HQ1.out.1, HQ1.out.2, HQ2.out.1, HQ2.out.2, p1.1, p1.2.1, p2.1, p2.2.1]
                · have hB6 := HA0.out.trans (HB6.out.mono HA0.out.size)
                  have hle : w.heap.size ≤ x3.heap.size := by omega
                  exact ((((((hB6.setCell (p := ⟨x3.heap.size, 2, none⟩) hle _).setCell (p := ⟨x3.heap.size, 3, none⟩) hle _).setCell (p := ⟨w.heap.size, 0, none⟩) (Nat.le_refl _) _).setCell (p := ⟨w.heap.size, 1, none⟩) (Nat.le_refl _) _).setCell (p := ⟨w.heap.size, 2, none⟩) (Nat.le_refl _) _).setCell (p := ⟨w.heap.size, 3, none⟩) (Nat.le_refl _) _).setCell (p := ⟨w.heap.size, 4, none⟩) (Nat.le_refl _) _
end Go.Proofs.YtdeihlbnlogjcaaDoor
namespace Go.Proofs.YtdeihlbnlogjcaaDoor
open Go.RowKit Go.Lib Go.Shelf
set_option maxRecDepth 100000
set_option linter.unusedVariables false

theorem run_eqIn_ed2 (W : World) (d : Nat) (a b c e : Int) (t : ByteArray) : (Op.equalIn (d + 2) 60 (.agg #[.int .i64 a, .int .i64 b, .int .i64 c, .int .i64 e, .string t]) (.agg #[.int .i64 a, .int .i64 b, .int .i64 c, .int .i64 e, .string t])).run Tryd.prog W = .ok true W := by
  have hst : Tryd.prog.stoodInHeld 60 = false := by kernel_rfl
  have hu : Tryd.prog.underlying 60 = some (.struct (Tryd.prog.fieldsOf 60)) := by kernel_rfl
  rw [run_equalIn_agg W _ _ _ _ hu hst]
  simp [go_sem]
theorem run_eql_ed2 (W : World) (a b c e : Int) (t : ByteArray) : (binOp .eql 60 (.agg #[.int .i64 a, .int .i64 b, .int .i64 c, .int .i64 e, .string t]) (.agg #[.int .i64 a, .int .i64 b, .int .i64 c, .int .i64 e, .string t])).run Tryd.prog W = .ok (.bool true) W := by
  rw [run_eql_struct, run_eqIn_ed2 W 9998]
  rfl
theorem box5b {w W : World} {x : ET} (h : W = w.alloc (.cells #[.int .i64 x.a, .int .i64 x.b, .int .i64 x.c, .int .i64 x.d, .string x.t] 60)) : ∀ W', Below W.heap.size W W' → FiveB W' w.heap.size (.int .i64 x.a) (.int .i64 x.b) (.int .i64 x.c) (.int .i64 x.d) (.string x.t) := fun W' hb => by
  subst h
  exact FiveB.below ⟨heap_alloc_new w _⟩ hb (by simp)
set_option maxHeartbeats 1000000 in
theorem rbetween7_bad (s t : ByteArray) (w : World) (hs : s.size ≤ 1099511627) (ht : t.size ≤ 1099511627) (hbad : validD s.data.toList = false ∨ validD t.data.toList = false) :
    Calls Tryd.prog 51 #[.string s, .string t] w fun e w' => e = .returned (.tuple #[etV noE, .int .i64 40]) ∧ Below w.heap.size w w' := by
  obtain ⟨W0, hW0⟩ : ∃ W0, W0 = w.alloc (.cells #[.int .i64 0, .int .i64 0, .int .i64 0, .int .i64 0, .string ⟨#[]⟩] 60) := ⟨_, rfl⟩
  have hA0 : Below w.heap.size w W0 := by rw [hW0]; exact (Below.refl _ w).alloc (Nat.le_refl _) _
  have hg0 : w.heap.size < W0.heap.size := by rw [hW0]; simp
  have HA0 := Lib.hid hA0
  have HR1 := Lib.hid (fun W => rrunes_any first_c s W (by omega))
  have HR2 := Lib.hid (fun W => rrunes_any first_c t W (by omega))
  have H0 := Lib.hid (fun W (h : Below W0.heap.size W0 W) => FiveB.below (W := W0) (W' := W) (g := w.heap.size) (v0 := .int .i64 0) (v1 := .int .i64 0) (v2 := .int .i64 0) (v3 := .int .i64 0) (v4 := .string ⟨#[]⟩) ⟨by rw [hW0]; exact heap_alloc_new w _⟩ h hg0)
  have HW0 := Lib.hid hW0
  clear hA0 hW0
  have hc : ∀ (L : List UInt8) (W W' : World) (e : Ending), RRPost L W e W' → ∃ (v : Value) (k : Int), e = .returned (.tuple #[v, .int .i64 k]) ∧ Below W.heap.size W W' ∧ (validD L = true → k = 0) ∧ (validD L = false → k = 40) := by
    rintro L W W' e ⟨h1, h2⟩
    cases hv : validD L
    · rw [hv, if_neg (by simp)] at h1
      exact ⟨_, 40, h1, h2, nofun, fun _ => rfl⟩
    · rw [hv, if_pos rfl] at h1
      obtain ⟨v, h1, -⟩ := h1
      exact ⟨v, 0, h1, h2, fun _ => rfl, nofun⟩
  have HCC := Lib.hid hc
  have HBAD := Lib.hid hbad
  clear hc hbad
  go_enter Tryd.func51, Tryd.ntmps51
  go_wp2_with fail
  rw [← HW0.out]
  refine (HR1.out W0).mono ?_
  rintro e w1 hp1
  obtain ⟨v1, k1, rfl, hb1, hk1, hk1'⟩ := HCC.out _ _ _ _ hp1
  have HB1 := Lib.hid hb1
  clear hb1 hp1
  go_wp2_with fail
  refine (HR2.out w1).mono ?_
  rintro e w2 hp2
  obtain ⟨v2, k2, rfl, hb2, hk2, hk2'⟩ := HCC.out _ _ _ _ hp2
  have HB2 := Lib.hid (HB1.out.trans (hb2.mono HB1.out.size))
  have HC := Lib.hid (H0.out w2 HB2.out)
  obtain ⟨⟨d0, d1, d2, d3, d4⟩, u0, u1, u2, u3, u4⟩ := HC.out.cells
  clear hb2 hp2
  have hkk : k1 = 40 ∨ k1 = 0 ∧ k2 = 40 := by
    cases hv : validD s.data.toList
    · exact .inl (hk1' hv)
    · rcases HBAD.out with h | h
      · rw [hv] at h
        cases h
      · exact .inr ⟨hk1 hv, hk2' h⟩
  clear hk1 hk1' hk2 hk2'
  rcases hkk with rfl | ⟨rfl, rfl⟩
  all_goals
    go_wp2
    refine bodyPost_ret (v := .tuple #[.agg #[.int .i64 0, .int .i64 0, .int .i64 0, .int .i64 0, .string ⟨#[]⟩], .int .i64 40]) ?_ rfl ⟨rfl, five_below (HA0.out.trans (HB2.out.mono HA0.out.size))⟩
    refine results_cell_tmp rfl _ _ w.heap.size 60 #[.int .i64 0, .int .i64 0, .int .i64 0, .int .i64 0, .string ⟨#[]⟩] (0, 0) _ ?_ ?_ Tryd.underlying60 rfl infoEd5 _ ?_
    · rfl
    · exact five_put0 HC.out.blk _ _ _ _ _
    · rfl
set_option maxHeartbeats 1500000 in
theorem textBetweens_walk (s t : ByteArray) (w : World) (hs : s.size ≤ 140737488351232) (ht : t.size ≤ 140737488351232) (hT : Tabs w) (hM : MaxL w) : Calls Tryd.prog 13 #[.string s, .string t] w (TruePost w) := by
  go_enter Tryd.func13, Tryd.ntmps13
  go_wp2_with fail
  refine (alive7_any w hT hM).mono ?_
  rintro e w1 ⟨rfl, hb1⟩
  have HB1 := Lib.hid hb1
  clear hb1
  by_cases hlen : s.size + t.size > 20000
  · have hl : (s.size : Int) + t.size > 20000 := by omega
    clear hlen
    go_wp2
    go_ret
    exact ⟨rfl, HB1.out⟩
  · have hl : ¬ (s.size : Int) + t.size > 20000 := by omega
    have hT1 := Utf8Tabs_below hT HB1.out
    have hbt : ∃ (x : ET) (k : Int), Calls Tryd.prog 50 #[.string s, .string t] w1 (fun e w' => e = .returned (.tuple #[etV x, .int .i64 k]) ∧ Below w1.heap.size w1 w') ∧ ∀ W, Calls Tryd.prog 51 #[.string s, .string t] W (fun e w' => e = .returned (.tuple #[etV x, .int .i64 k]) ∧ Below W.heap.size W w') := by
      by_cases hbad : validD s.data.toList = false ∨ validD t.data.toList = false
      · exact ⟨noE, 40, between_bad s t w1 (by omega) (by omega) hT1 hbad, fun W => rbetween7_bad s t W (by omega) (by omega) hbad⟩
      · have hvs : validD s.data.toList = true := by
          cases h : validD s.data.toList
          · exact absurd (.inl h) hbad
          · rfl
        have hvt : validD t.data.toList = true := by
          cases h : validD t.data.toList
          · exact absurd (.inr h) hbad
          · rfl
        exact ⟨btX s t, 0, between_any s t w1 (by omega) (by omega) hT1 hvs hvt, fun W => rbetween7_any s t W (by omega) (by omega) hvs hvt⟩
    obtain ⟨x, k, h1, h2⟩ := hbt
    obtain ⟨xa, xb, xc, xd, xt⟩ := x
    unfold etV at h1 h2
    simp only at h1 h2
    have H1 := Lib.hid h1
    have H2 := Lib.hid h2
    have hnq := fun W => run_eql_ed2 W xa xb xc xd xt
    clear h1 h2 hT1
    go_wp2_with fail
    refine H1.out.mono ?_
    rintro e w2 ⟨rfl, hb2⟩
    have HB2 := Lib.hid (HB1.out.trans (hb2.mono HB1.out.size))
    clear hb2
    have hs2 := HB2.out.size
    obtain ⟨W2, hW2⟩ : ∃ W2, W2 = w2.alloc (.cells #[.int .i64 xa, .int .i64 xb, .int .i64 xc, .int .i64 xd, .string xt] 60) := ⟨_, rfl⟩
    have HBX := Lib.hid (box5b (x := ⟨xa, xb, xc, xd, xt⟩) hW2)
    simp only at HBX
    have HBW := Lib.hid (show Below w.heap.size w W2 by rw [hW2]; exact HB2.out.alloc hs2 _)
    have hgl : w2.heap.size < W2.heap.size := by rw [hW2]; simp
    have HW2 := Lib.hid hW2
    clear hW2
    go_wp2_with fail
    rw [← HW2.out]
    refine (H2.out W2).mono ?_
    rintro e w3 ⟨rfl, hb3⟩
    have HB3 := Lib.hid (HBW.out.trans (hb3.mono HBW.out.size))
    have HF3 := Lib.hid (HBX.out w3 hb3)
    have hs3 := HB3.out.size
    have hg3 : w2.heap.size < w3.heap.size := by have := hb3.size; omega
    clear hb3
    obtain ⟨W3, hW3⟩ : ∃ W2, W2 = w3.alloc (.cells #[.int .i64 xa, .int .i64 xb, .int .i64 xc, .int .i64 xd, .string xt] 60) := ⟨_, rfl⟩
    have HB4 := Lib.hid (show Below w.heap.size w W3 by rw [hW3]; exact HB3.out.alloc hs3 _)
    have HF4 := Lib.hid (HF3.out.below (B := w3.heap.size) (W' := W3) (by rw [hW3]; exact (Below.refl _ _).alloc (Nat.le_refl _) _) hg3)
    have HF5 := Lib.hid (box5b (x := ⟨xa, xb, xc, xd, xt⟩) hW3 W3 (Below.refl _ _))
    simp only at HF5
    obtain ⟨⟨d0, d1, d2, d3, d4⟩, -⟩ := HF4.out.cells
    obtain ⟨⟨e0, e1, e2, e3, e4⟩, -⟩ := HF5.out.cells
    rw [hW3] at d0 d1 d2 d3 d4 e0 e1 e2 e3 e4 HB4
    clear hW3
    go_wp2
    go_ret
    exact ⟨rfl, HB4.out⟩
end Go.Proofs.YtdeihlbnlogjcaaDoor
