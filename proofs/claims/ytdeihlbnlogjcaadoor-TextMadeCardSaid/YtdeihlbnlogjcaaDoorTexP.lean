/- Places in a text: plain mathematics. -/
import Derived.Test.YtdeihlbnlogjcaaDoorTexD
import Derived.Lib.IndexBytes
import Derived.Lib.LastIndexByte
namespace Go.Proofs.YtdeihlbnlogjcaaDoor
open Go.RowKit Go.Lib Go.Shelf
set_option linter.unusedVariables false

/-! ### lines and units behind runes -/
def stepP (p : Nat × Int) (r : Int) : Nat × Int := if r = 10 then (p.1 + 1, 0) else (p.1, p.2 + Ut.widthR r)
def posR (rs : List Int) : Nat × Int := rs.foldl stepP (0, 0)
def ltP (p q : Nat × Int) : Prop := p.1 < q.1 ∨ p.1 = q.1 ∧ p.2 < q.2
theorem ltP_trans {a b c : Nat × Int} (h : ltP a b) (k : ltP b c) : ltP a c := by
  unfold ltP at *
  omega
theorem ltP_irrefl {a : Nat × Int} (h : ltP a a) : False := by
  unfold ltP at h
  omega
theorem step_lt (p : Nat × Int) (r : Int) : ltP p (stepP p r) := by
  have := Ut.width_pos r
  unfold stepP ltP
  split
  · exact .inl (Nat.lt_succ_self _)
  · exact .inr ⟨rfl, by show p.2 < p.2 + _; omega⟩
theorem fold_lt : ∀ (rs : List Int) (p : Nat × Int) (r : Int), ltP p ((r :: rs).foldl stepP p)
  | [], p, r => step_lt p r
  | s :: rs, p, r => ltP_trans (step_lt p r) (fold_lt rs (stepP p r) s)
theorem pos_app (a b : List Int) : posR (a ++ b) = b.foldl stepP (posR a) := by
  unfold posR
  rw [List.foldl_append]
theorem pos_lt (a : List Int) (r : Int) (b : List Int) : ltP (posR a) (posR (a ++ r :: b)) := by
  rw [pos_app]
  exact fold_lt b _ r
/-- how many units runes have. -/
def wid : List Int → Int
  | [] => 0
  | r :: rs => Ut.widthR r + wid rs
theorem wid_nonneg : ∀ rs, 0 ≤ wid rs
  | [] => Int.le_refl _
  | r :: rs => by
    have := wid_nonneg rs
    have := Ut.width_pos r
    unfold wid
    omega
theorem fold_own : ∀ (b : List Int) (p : Nat × Int), (10 : Int) ∉ b → b.foldl stepP p = (p.1, p.2 + wid b)
  | [], p, _ => by simp [wid]
  | r :: b, p, h => by
    simp only [List.mem_cons, not_or] at h
    rw [List.foldl_cons, fold_own b _ h.2, stepP, if_neg (fun e => h.1 e.symm)]
    simp only [wid]
    apply Prod.ext
    · rfl
    · show p.2 + Ut.widthR r + wid b = p.2 + (Ut.widthR r + wid b)
      omega
/-- nothing, or ends in a line feed. -/
def EndsLf (a : List Int) : Prop := a = [] ∨ ∃ a', a = a' ++ [10]
theorem pos_ends {a : List Int} (h : EndsLf a) : (posR a).2 = 0 := by
  rcases h with rfl | ⟨a', rfl⟩
  · rfl
  · rw [pos_app]
    rfl
theorem pos_own {a b : List Int} (h : EndsLf a) (hb : (10 : Int) ∉ b) : posR (a ++ b) = ((posR a).1, wid b) := by
  rw [pos_app, fold_own b _ hb, pos_ends h, Int.zero_add]
theorem pos_count : ∀ (rs : List Int) (p : Nat × Int), (rs.foldl stepP p).1 = p.1 + rs.count 10
  | [], p => by simp
  | r :: rs, p => by
    rw [List.foldl_cons, pos_count rs, List.count_cons]
    unfold stepP
    by_cases h : r = 10
    · rw [if_pos h, h]
      simp
      omega
    · rw [if_neg h]
      simp [h]
theorem posR_count (rs : List Int) : (posR rs).1 = rs.count 10 := by
  unfold posR
  rw [pos_count]
  simp
/-- runes are lines, and a line without a line feed. -/
theorem last_line : ∀ rs : List Int, ∃ a b, rs = a ++ b ∧ EndsLf a ∧ (10 : Int) ∉ b
  | [] => ⟨[], [], rfl, .inl rfl, by simp⟩
  | r :: rs => by
    obtain ⟨a, b, rfl, ha, hb⟩ := last_line rs
    rcases ha with rfl | ⟨a', rfl⟩
    · by_cases h : r = 10
      · subst h
        exact ⟨[10], b, rfl, .inr ⟨[], rfl⟩, hb⟩
      · refine ⟨[], r :: b, rfl, .inl rfl, ?_⟩
        simp only [List.mem_cons, not_or]
        exact ⟨fun e => h e.symm, hb⟩
    · exact ⟨r :: (a' ++ [10]), b, rfl, .inr ⟨r :: a', rfl⟩, hb⟩
/-- runes up to the next line feed. -/
theorem next_line : ∀ rs : List Int, ∃ p q, rs = p ++ q ∧ (10 : Int) ∉ p ∧ (q = [] ∨ ∃ q', q = 10 :: q')
  | [] => ⟨[], [], rfl, by simp, .inl rfl⟩
  | r :: rs => by
    by_cases h : r = 10
    · subst h
      exact ⟨[], 10 :: rs, rfl, by simp, .inr ⟨rs, rfl⟩⟩
    · obtain ⟨p, q, rfl, hp, hq⟩ := next_line rs
      refine ⟨r :: p, q, rfl, ?_, hq⟩
      simp only [List.mem_cons, not_or]
      exact ⟨fun e => h e.symm, hp⟩

/-! ### the bytes of lines -/
theorem lf_enc (r : Int) (h : Ut.isR r = true) (h10 : r ≠ 10) : (10 : UInt8) ∉ encodeRune r := by
  have key : ∀ x ∈ encodeRuneZ r, 0 ≤ x ∧ x < 256 ∧ x ≠ 10 := by
    rcases Ut.enc_cases r h with ⟨h0, h1, e⟩ | ⟨h0, h1, e⟩ | ⟨h0, h1, h2, e⟩ | ⟨h0, h1, e⟩ <;> rw [e] <;> intro x hx <;> simp only [List.mem_cons, List.not_mem_nil, or_false] at hx <;> omega
  intro hm
  unfold encodeRune at hm
  rw [List.mem_map] at hm
  obtain ⟨x, hx, e⟩ := hm
  obtain ⟨k0, k1, k2⟩ := key x hx
  have := Ut.u8 x k0 k1
  rw [e] at this
  exact k2 (by have h10 : (10 : UInt8).toNat = 10 := rfl; omega)
theorem enc_lf : encodeRune 10 = [10] := by decide +kernel
theorem lf_encs : ∀ rs : List Int, (∀ r ∈ rs, Ut.isR r = true) → (10 : Int) ∉ rs → (10 : UInt8) ∉ Ut.encs rs
  | [], _, _ => by simp [Ut.encs]
  | r :: rs, h, h10 => by
    simp only [List.mem_cons, not_or] at h10
    rw [Ut.encs_cons, List.mem_append, not_or]
    exact ⟨lf_enc r (h r (List.mem_cons_self ..)) (fun e => h10.1 e.symm), lf_encs rs (fun u hu => h u (List.mem_cons_of_mem _ hu)) h10.2⟩
theorem count_encs : ∀ rs : List Int, (∀ r ∈ rs, Ut.isR r = true) → Lib.countByte (Ut.encs rs) 10 = rs.count 10
  | [], _ => rfl
  | r :: rs, h => by
    have ih := count_encs rs fun u hu => h u (List.mem_cons_of_mem _ hu)
    unfold Lib.countByte at ih ⊢
    rw [Ut.encs_cons, List.count_append, ih, List.count_cons]
    by_cases h10 : r = 10
    · subst h10
      rw [enc_lf]
      simp
      omega
    · rw [List.count_eq_zero.2 (lf_enc r (h r (List.mem_cons_self ..)) h10)]
      simp [h10]
theorem index_at : ∀ (P Q : List UInt8), (10 : UInt8) ∉ P → Lib.indexByte (P ++ 10 :: Q) 10 = P.length
  | [], Q, _ => by simp [Lib.indexByte]
  | b :: P, Q, h => by
    simp only [List.mem_cons, not_or] at h
    have hb : (b == (10 : UInt8)) = false := by simpa using fun e => h.1 e.symm
    rw [List.cons_append, Lib.indexByte, hb, index_at P Q h.2, if_neg (by simp), if_neg (by simp)]
    simp
theorem index_no : ∀ (P : List UInt8), (10 : UInt8) ∉ P → Lib.indexByte P 10 = -1
  | [], _ => rfl
  | b :: P, h => by
    simp only [List.mem_cons, not_or] at h
    have hb : (b == (10 : UInt8)) = false := by simpa using fun e => h.1 e.symm
    rw [Lib.indexByte, hb, index_no P h.2]
    rfl
theorem cut_at (P Q : List UInt8) (h : (10 : UInt8) ∉ P) : (Lib.cut (P ++ 10 :: Q) [10]).1 = P := by
  unfold Lib.cut
  rw [Lib.index_one, index_at P Q h, if_pos (by omega)]
  simp
theorem cut_no (P : List UInt8) (h : (10 : UInt8) ∉ P) : (Lib.cut P [10]).1 = P := by
  unfold Lib.cut
  rw [Lib.index_one, index_no P h, if_neg (by omega)]
theorem cut_line (p q : List Int) (hp : ∀ r ∈ p, Ut.isR r = true) (h10 : (10 : Int) ∉ p) (hq : q = [] ∨ ∃ q', q = 10 :: q') : (Lib.cut (Ut.encs (p ++ q)) [10]).1 = Ut.encs p := by
  have hb := lf_encs p hp h10
  rw [Ut.encs_app]
  rcases hq with rfl | ⟨q', rfl⟩
  · rw [show Ut.encs [] = [] from rfl, List.append_nil, cut_no _ hb]
  · rw [Ut.encs_cons, enc_lf, List.singleton_append, cut_at _ _ hb]
/-- where line k begins. -/
theorem start_runes (rs : List Int) (hr : ∀ r ∈ rs, Ut.isR r = true) : ∀ k : Nat, k ≤ rs.count 10 → ∃ a b, rs = a ++ b ∧ EndsLf a ∧ (posR a).1 = k ∧ startN k (Ut.encs rs) = (Ut.encs a).length
  | 0, _ => ⟨[], rs, rfl, .inl rfl, rfl, rfl⟩
  | k + 1, h => by
    obtain ⟨a, b, e, ha, hk, hs⟩ := start_runes rs hr k (by omega)
    obtain ⟨p, q, e2, hp, hq⟩ := next_line b
    have hpr : ∀ r ∈ p, Ut.isR r = true := fun r h => hr r (by rw [e, e2]; simp [h])
    rcases hq with rfl | ⟨q', rfl⟩
    · exfalso
      rw [e, e2, List.append_nil, List.count_append, List.count_eq_zero.2 hp, ← posR_count, hk] at h
      omega
    · refine ⟨a ++ p ++ [10], q', by rw [e, e2]; simp, .inr ⟨a ++ p, rfl⟩, ?_, ?_⟩
      · rw [posR_count, List.count_append, List.count_append, List.count_eq_zero.2 hp, ← posR_count, hk]
        simp
      · show startN k (Ut.encs rs) + (Lib.indexByte ((Ut.encs rs).drop (startN k (Ut.encs rs))) 10 + 1).toNat = _
        rw [hs]
        have hd : (Ut.encs rs).drop (Ut.encs a).length = Ut.encs p ++ 10 :: Ut.encs q' := by
          rw [e, Ut.encs_app, List.drop_left, e2, Ut.encs_app, Ut.encs_cons, enc_lf]
          rfl
        rw [hd, index_at _ _ (lf_encs p hpr hp), Ut.encs_app, Ut.encs_app, Ut.encs_cons, enc_lf]
        simp [Ut.encs]

/-! ### offsets and units -/
theorem off_front : ∀ (p : List Int) (o u n x : Int), Ut.offF o u p n = some x → ∃ c d, p = c ++ d ∧ x = o + (Ut.encs c).length ∧ n = u + wid c
  | [], o, u, n, x, h => by
    rw [Ut.offF] at h
    split at h
    · rename_i hu
      simp only [Option.some.injEq] at h
      exact ⟨[], [], rfl, by simp [Ut.encs, h], by simp [wid, hu]⟩
    · cases h
  | r :: p, o, u, n, x, h => by
    rw [Ut.offF] at h
    split at h
    · rename_i hu
      simp only [Option.some.injEq] at h
      exact ⟨[], r :: p, rfl, by simp [Ut.encs, h], by simp [wid, hu]⟩
    · obtain ⟨c, d, e, hx, hn⟩ := off_front p _ _ n x h
      refine ⟨r :: c, d, by rw [e]; rfl, ?_, ?_⟩
      · rw [Ut.encs_cons, List.length_append]
        omega
      · simp only [wid]
        omega
theorem off_back : ∀ (c d : List Int) (o u : Int), Ut.offF o u (c ++ d) (u + wid c) = some (o + (Ut.encs c).length)
  | [], [], o, u => by simp [Ut.offF, wid, Ut.encs]
  | [], r :: d, o, u => by simp [Ut.offF, wid, Ut.encs]
  | r :: c, d, o, u => by
    have := Ut.width_pos r
    have := wid_nonneg c
    rw [List.cons_append, Ut.offF, wid, if_neg (by omega), show u + (Ut.widthR r + wid c) = u + Ut.widthR r + wid c by omega, off_back c d, Ut.encs_cons, List.length_append]
    simp
    omega
theorem unit_end (b : List Int) (hb : ∀ r ∈ b, Ut.isR r = true) : Ut.unitF 0 0 b ((Ut.encs b).length : Nat) = some (wid b) := by
  have h := off_back b [] 0 0
  rw [List.append_nil, Int.zero_add, Int.zero_add] at h
  exact Ut.off_unit b hb _ _ _ _ h
end Go.Proofs.YtdeihlbnlogjcaaDoor
