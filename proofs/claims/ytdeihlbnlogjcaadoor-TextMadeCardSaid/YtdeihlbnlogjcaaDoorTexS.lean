/- What text's Between says: plain mathematics. -/
import Derived.Test.YtdeihlbnlogjcaaDoorTexR
namespace Go.Proofs.YtdeihlbnlogjcaaDoor
open Go.RowKit Go.Lib Go.Shelf
set_option maxRecDepth 100000
set_option linter.unusedVariables false

theorem wid_le : ∀ rs : List Int, (∀ r ∈ rs, Ut.isR r = true) → wid rs ≤ (Ut.encs rs).length
  | [], _ => by simp [wid]
  | r :: rs, h => by
    have ih := wid_le rs fun u hu => h u (List.mem_cons_of_mem _ hu)
    have hl := Ut.enc_len r (h r (List.mem_cons_self ..))
    rw [Ut.encs_cons, List.length_append, wid]
    unfold Ut.widthR
    split <;> omega
theorem pos_bound (L : List UInt8) (hv : validD L = true) : (posB L).1 ≤ L.length ∧ 0 ≤ (posB L).2 ∧ (posB L).2 ≤ L.length := by
  obtain ⟨k1, k2, -⟩ := Ut.valid_all L hv
  obtain ⟨a, b, e, ha, hb⟩ := last_line (Ut.runesF L)
  have hbr : ∀ r ∈ b, Ut.isR r = true := fun r h => k2 r (by rw [e]; simp [h])
  have h1 : (posB L).1 = Lib.countByte L 10 := by
    unfold posB
    rw [posR_count, ← count_encs _ k2, k1]
  have h2 : (posB L).2 = wid b := by
    unfold posB
    rw [e, pos_own ha hb]
  have h3 : (Ut.encs b).length ≤ L.length := by
    rw [← k1, e, Ut.encs_app, List.length_append]
    omega
  have := wid_le b hbr
  exact ⟨by rw [h1]; exact count_le L, by rw [h2]; exact wid_nonneg b, by omega⟩
theorem wf_of {n : Int} (h0 : 0 ≤ n) (h1 : n ≤ 1099511627) : (Lit.int .i64 n).wf = true := by
  have e1 : IntKind.i64.min = -9223372036854775808 := rfl
  have e2 : IntKind.i64.max = 9223372036854775807 := rfl
  show (decide (IntKind.i64.min ≤ n) && decide (n ≤ IntKind.i64.max)) = true
  rw [e1, e2, decide_eq_true (by omega), decide_eq_true (by omega)]
  rfl
/-- where the front ends, and where the end begins. -/
def btF (s t : ByteArray) : Nat := frontB s.data.toList t.data.toList
def btE (s t : ByteArray) : Nat := endB (s.data.toList.drop (btF s t)) (t.data.toList.drop (btF s t))
def btX (s t : ByteArray) : ET :=
  ⟨(posB (s.data.toList.take (btF s t))).1, (posB (s.data.toList.take (btF s t))).2, (posB (s.data.toList.take (s.size - btE s t))).1, (posB (s.data.toList.take (s.size - btE s t))).2, t.extract (btF s t) (t.size - btE s t)⟩
structure BtS (s t : ByteArray) (f e : Nat) : Prop where
  f1 : f + e ≤ s.size
  f2 : f + e ≤ t.size
  v1 : validD (s.data.toList.take f) = true
  v2 : validD (s.data.toList.take (s.size - e)) = true
  v3 : validD (t.extract f (t.size - e)).data.toList = true
  v4 : validD (t.data.toList.take f) = true
  front : s.data.toList.take f = t.data.toList.take f
  back : s.data.toList.drop (s.size - e) = t.data.toList.drop (t.size - e)
theorem bt_spec (s t : ByteArray) (hs : validD s.data.toList = true) (ht : validD t.data.toList = true) : BtS s t (btF s t) (btE s t) := by
  have hLs : s.data.toList.length = s.size := by simp
  have hLt : t.data.toList.length = t.size := by simp
  obtain ⟨h1, h2, h3, h4, h5⟩ := front_spec _ _ hs ht
  obtain ⟨f, hf⟩ : ∃ f, f = btF s t := ⟨_, rfl⟩
  have hf' : frontB s.data.toList t.data.toList = f := by rw [hf]; rfl
  rw [hf'] at h1 h2 h3 h4 h5
  have d1 : validD (s.data.toList.drop f) = true := by rw [← (front_runes _ f h4).2]; exact hs
  have d2 : validD (t.data.toList.drop f) = true := by rw [← (front_runes _ f h5).2]; exact ht
  obtain ⟨k1, k2, k3, k4⟩ := end_spec (s.data.toList.drop f) (t.data.toList.drop f) d1
  obtain ⟨e, he⟩ : ∃ e, e = btE s t := ⟨_, rfl⟩
  have he' : endB (s.data.toList.drop f) (t.data.toList.drop f) = e := by rw [he, hf]; rfl
  rw [he'] at k1 k2 k3 k4
  rw [← hf, ← he]
  rw [List.length_drop, hLs] at k1 k3 k4
  rw [List.length_drop, hLt] at k2 k3
  rw [hLs] at h1
  rw [hLt] at h2
  rw [List.drop_drop, List.drop_drop, show f + (s.size - f - e) = s.size - e by omega, show f + (t.size - f - e) = t.size - e by omega] at k3
  have c2 : validD (s.data.toList.take (s.size - e)) = true := by
    rw [show s.size - e = f + (s.size - f - e) by omega, List.take_add, valid_app _ _ h4]
    exact k4
  have c3 : contL (s.data.toList) (s.size - e) = false := (cont_valid _ hs _ (by omega)).2 c2
  have c4 : contL (t.data.toList) (t.size - e) = false := by
    rcases Nat.eq_zero_or_pos e with h0 | h0
    · rw [h0, Nat.sub_zero, ← hLt]
      exact cont_len _
    · have g := congrArg (fun l => l[0]?) k3
      simp only [List.getElem?_drop, Nat.add_zero] at g
      unfold contL at c3 ⊢
      rw [← g]
      exact c3
  have c5 := (cont_valid _ ht (t.size - e) (by omega)).1 c4
  refine ⟨by omega, by omega, h4, c2, ?_, h5, h3, k3⟩
  have hx : (t.extract f (t.size - e)).data.toList = (t.data.toList.take (t.size - e)).drop f := by
    rw [ByteArray.data_extract, Array.toList_extract, List.extract_eq_take_drop, List.drop_take]
  rw [hx]
  have := (front_runes (t.data.toList.take (t.size - e)) f (by rw [List.take_take, Nat.min_eq_left (by omega)]; exact h5)).2
  rw [← this]
  exact c5
theorem bt_wf (s t : ByteArray) (hs : validD s.data.toList = true) (ht : validD t.data.toList = true) (h1 : s.size ≤ 1099511627) (h2 : t.size ≤ 1099511627) : EdOk (btX s t) := by
  have H := bt_spec s t hs ht
  have b1 := pos_bound _ H.v1
  have b2 := pos_bound _ H.v2
  have l1 : (s.data.toList.take (btF s t)).length ≤ s.size := by
    rw [List.length_take, show s.data.toList.length = s.size by simp]
    omega
  have l2 : (s.data.toList.take (s.size - btE s t)).length ≤ s.size := by
    rw [List.length_take, show s.data.toList.length = s.size by simp]
    omega
  refine ⟨⟨wf_of ?_ ?_, wf_of b1.2.1 ?_, wf_of ?_ ?_, wf_of b2.2.1 ?_⟩, ?_⟩
  · show (0 : Int) ≤ ((posB _).1 : Nat); omega
  · show (((posB _).1 : Nat) : Int) ≤ _; omega
  · show (posB _).2 ≤ _; omega
  · show (0 : Int) ≤ ((posB _).1 : Nat); omega
  · show (((posB _).1 : Nat) : Int) ≤ _; omega
  · show (posB _).2 ≤ _; omega
  · show (t.extract _ _).size ≤ _
    rw [ByteArray.size_extract]
    omega
/-- what Apply makes of it. -/
theorem bt_apply (s t : ByteArray) (hs : validD s.data.toList = true) (ht : validD t.data.toList = true) :
    (t.size > 32768 → apAE s [btX s t] = 52 ∧ apAS s [btX s t] = ⟨#[]⟩) ∧ (¬ t.size > 32768 → apAE s [btX s t] = 0 ∧ apAS s [btX s t] = t) := by
  have H := bt_spec s t hs ht
  have hLs : s.data.toList.length = s.size := by simp
  have hLt : t.data.toList.length = t.size := by simp
  obtain ⟨f, hf⟩ : ∃ f, f = btF s t := ⟨_, rfl⟩
  obtain ⟨e, he⟩ : ∃ e, e = btE s t := ⟨_, rfl⟩
  obtain ⟨a1, a2⟩ := toff_back s.data.toList hs (btF s t) (by have := H.f1; omega) H.v1
  obtain ⟨b1, b2⟩ := toff_back s.data.toList hs (s.size - btE s t) (by omega) H.v2
  have hv := H.v3
  have hsz : (t.extract f (t.size - e)).size = t.size - e - f := by
    rw [ByteArray.size_extract]
    omega
  have hf1 := H.f1
  have hf2 := H.f2
  have hE : apE s (btX s t) = if t.size > 32768 then 52 else 0 := by
    unfold apE btX
    simp only
    rw [if_pos hv, if_pos a2, if_pos b2, a1, b1, if_neg (by omega), ← hf, ← he, hsz]
    rw [← hf, ← he] at hf1 hf2
    split <;> rename_i h
    · rw [if_pos (by omega)]
    · rw [if_neg (by omega)]
  unfold apAE apAS apR
  rw [if_pos hs, if_pos hs, hE]
  refine ⟨fun h => ?_, fun h => ?_⟩
  · rw [if_pos h, if_neg (by omega)]
    exact ⟨rfl, rfl⟩
  · rw [if_neg h, if_pos rfl]
    refine ⟨rfl, ?_⟩
    show apT s (btX s t) = t
    apply ByteArray.ext
    apply Array.ext'
    unfold apT btX
    simp only
    rw [a1, b1, ByteArray.data_append, ByteArray.data_append, Array.toList_append, Array.toList_append, Int.toNat_natCast, Int.toNat_natCast, (take_str s _ (by omega)).1, drop_str s _ (by omega), H.front, H.back]
    have hx : (t.extract (btF s t) (t.size - btE s t)).data.toList = (t.data.toList.take (t.size - btE s t)).drop (btF s t) := by
      rw [ByteArray.data_extract, Array.toList_extract, List.extract_eq_take_drop, List.drop_take]
    rw [hx]
    conv => rhs; rw [← List.take_append_drop (t.size - btE s t) t.data.toList]
    congr 1
    conv => rhs; rw [← List.take_append_drop (btF s t) (t.data.toList.take (t.size - btE s t))]
    rw [List.take_take, Nat.min_eq_left (by omega)]
/-- when it is the empty one. -/
theorem bt_empty (s t : ByteArray) (hs : validD s.data.toList = true) (ht : validD t.data.toList = true) :
    ((btX s t).t = ⟨#[]⟩ ∧ (btX s t).a = (btX s t).c ∧ (btX s t).b = (btX s t).d) ↔ s = t := by
  have H := bt_spec s t hs ht
  have hLs : s.data.toList.length = s.size := by simp
  have hLt : t.data.toList.length = t.size := by simp
  have hf1 := H.f1
  have hf2 := H.f2
  constructor
  · rintro ⟨h1, h2, h3⟩
    have hz := congrArg ByteArray.size h1
    unfold btX at hz h2 h3
    simp only at hz h2 h3
    rw [ByteArray.size_extract] at hz
    have hz' : (ByteArray.mk #[]).size = 0 := rfl
    rw [hz'] at hz
    have hp : posB (s.data.toList.take (btF s t)) = posB (s.data.toList.take (s.size - btE s t)) := Prod.ext (by omega) h3
    have hfe := front_inj s.data.toList _ _ (by omega) (by omega) H.v1 H.v2 hp
    apply ByteArray.ext
    apply Array.ext'
    rw [← List.take_append_drop (btF s t) s.data.toList, ← List.take_append_drop (btF s t) t.data.toList, H.front]
    congr 1
    have hb := H.back
    rw [← hfe, show t.size - btE s t = btF s t by omega] at hb
    exact hb
  · rintro rfl
    have hf : btF s s = s.size := by
      unfold btF
      rw [front_self _ hs, hLs]
    have he : btE s s = 0 := by omega
    unfold btX
    rw [hf, he]
    simp only [Nat.sub_zero, and_self, and_true]
    apply ByteArray.ext
    apply Array.ext'
    rw [ByteArray.data_extract, Array.toList_extract, List.extract_eq_take_drop]
    simp
end Go.Proofs.YtdeihlbnlogjcaaDoor
