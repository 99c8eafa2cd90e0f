/- Places in a text: plain mathematics. What text's Offset and Place say: plain mathematics. -/
import Derived.Test.YtdeihlbnlogjcaaDoorTexD
import Derived.Lib.IndexBytes
import Derived.Lib.LastIndexByte
namespace Go.Proofs.YtdeihlbnlogjcaaDoor
open Go.RowKit Go.Lib Go.Shelf
set_option linter.unusedVariables false

/-! ### lines and units behind runes -/
def stepP (p : Nat × Int) (r : Int) : Nat × Int := if r = 10 then (p.1 + 1, 0) else (p.1, p.2 + Ut.widthR r)
def posR (rs : List Int) : Nat × Int := rs.foldl stepP (0, 0)
def ltP (p q : Nat × Int) : Prop := p.1 < q.1 ∨ p.1 = q.1 ∧ p.2 < q.2
theorem ltP_trans {a b c : Nat × Int} (h : ltP a b) (k : ltP b c) : ltP a c := by
  unfold ltP at *
  omega
theorem ltP_irrefl {a : Nat × Int} (h : ltP a a) : False := by
  unfold ltP at h
  omega
theorem step_lt (p : Nat × Int) (r : Int) : ltP p (stepP p r) := by
  have := Ut.width_pos r
  unfold stepP ltP
  split
  · exact .inl (Nat.lt_succ_self _)
  · exact .inr ⟨rfl, by show p.2 < p.2 + _; omega⟩
theorem fold_lt : ∀ (rs : List Int) (p : Nat × Int) (r : Int), ltP p ((r :: rs).foldl stepP p)
  | [], p, r => step_lt p r
  | s :: rs, p, r => ltP_trans (step_lt p r) (fold_lt rs (stepP p r) s)
theorem pos_app (a b : List Int) : posR (a ++ b) = b.foldl stepP (posR a) := by
  unfold posR
  rw [List.foldl_append]
theorem pos_lt (a : List Int) (r : Int) (b : List Int) : ltP (posR a) (posR (a ++ r :: b)) := by
  rw [pos_app]
  exact fold_lt b _ r
/-- how many units runes have. -/
def wid : List Int → Int
  | [] => 0
  | r :: rs => Ut.widthR r + wid rs
theorem wid_nonneg : ∀ rs, 0 ≤ wid rs
  | [] => Int.le_refl _
  | r :: rs => by
    have := wid_nonneg rs
    have := Ut.width_pos r
    unfold wid
    omega
theorem fold_own : ∀ (b : List Int) (p : Nat × Int), (10 : Int) ∉ b → b.foldl stepP p = (p.1, p.2 + wid b)
  | [], p, _ => by simp [wid]
  | r :: b, p, h => by
    simp only [List.mem_cons, not_or] at h
    rw [List.foldl_cons, fold_own b _ h.2, stepP, if_neg (fun e => h.1 e.symm)]
    simp only [wid]
    apply Prod.ext
    · rfl
    · show p.2 + Ut.widthR r + wid b = p.2 + (Ut.widthR r + wid b)
      omega
/-- nothing, or ends in a line feed. -/
def EndsLf (a : List Int) : Prop := a = [] ∨ ∃ a', a = a' ++ [10]
theorem pos_ends {a : List Int} (h : EndsLf a) : (posR a).2 = 0 := by
  rcases h with rfl | ⟨a', rfl⟩
  · rfl
  · rw [pos_app]
    rfl
theorem pos_own {a b : List Int} (h : EndsLf a) (hb : (10 : Int) ∉ b) : posR (a ++ b) = ((posR a).1, wid b) := by
  rw [pos_app, fold_own b _ hb, pos_ends h, Int.zero_add]
theorem pos_count : ∀ (rs : List Int) (p : Nat × Int), (rs.foldl stepP p).1 = p.1 + rs.count 10
  | [], p => by simp
  | r :: rs, p => by
    rw [List.foldl_cons, pos_count rs, List.count_cons]
    unfold stepP
    by_cases h : r = 10
    · rw [if_pos h, h]
      simp
      omega
    · rw [if_neg h]
      simp [h]
theorem posR_count (rs : List Int) : (posR rs).1 = rs.count 10 := by
  unfold posR
  rw [pos_count]
  simp
/-- runes are lines, and a line without a line feed. -/
theorem last_line : ∀ rs : List Int, ∃ a b, rs = a ++ b ∧ EndsLf a ∧ (10 : Int) ∉ b
  | [] => ⟨[], [], rfl, .inl rfl, by simp⟩
  | r :: rs => by
    obtain ⟨a, b, rfl, ha, hb⟩ := last_line rs
    rcases ha with rfl | ⟨a', rfl⟩
    · by_cases h : r = 10
      · subst h
        exact ⟨[10], b, rfl, .inr ⟨[], rfl⟩, hb⟩
      · refine ⟨[], r :: b, rfl, .inl rfl, ?_⟩
        simp only [List.mem_cons, not_or]
        exact ⟨fun e => h e.symm, hb⟩
    · exact ⟨r :: (a' ++ [10]), b, rfl, .inr ⟨r :: a', rfl⟩, hb⟩
/-- runes up to the next line feed. -/
theorem next_line : ∀ rs : List Int, ∃ p q, rs = p ++ q ∧ (10 : Int) ∉ p ∧ (q = [] ∨ ∃ q', q = 10 :: q')
  | [] => ⟨[], [], rfl, by simp, .inl rfl⟩
  | r :: rs => by
    by_cases h : r = 10
    · subst h
      exact ⟨[], 10 :: rs, rfl, by simp, .inr ⟨rs, rfl⟩⟩
    · obtain ⟨p, q, rfl, hp, hq⟩ := next_line rs
      refine ⟨r :: p, q, rfl, ?_, hq⟩
      simp only [List.mem_cons, not_or]
      exact ⟨fun e => h e.symm, hp⟩

/-! ### the bytes of lines -/
theorem lf_enc (r : Int) (h : Ut.isR r = true) (h10 : r ≠ 10) : (10 : UInt8) ∉ encodeRune r := by
  have key : ∀ x ∈ encodeRuneZ r, 0 ≤ x ∧ x < 256 ∧ x ≠ 10 := by
    rcases Ut.enc_cases r h with ⟨h0, h1, e⟩ | ⟨h0, h1, e⟩ | ⟨h0, h1, h2, e⟩ | ⟨h0, h1, e⟩ <;> rw [e] <;> intro x hx <;> simp only [List.mem_cons, List.not_mem_nil, or_false] at hx <;> omega
  intro hm
  unfold encodeRune at hm
  rw [List.mem_map] at hm
  obtain ⟨x, hx, e⟩ := hm
  obtain ⟨k0, k1, k2⟩ := key x hx
  have := Ut.u8 x k0 k1
  rw [e] at this
  exact k2 (by have h10 : (10 : UInt8).toNat = 10 := rfl; omega)
theorem enc_lf : encodeRune 10 = [10] := by decide +kernel
theorem lf_encs : ∀ rs : List Int, (∀ r ∈ rs, Ut.isR r = true) → (10 : Int) ∉ rs → (10 : UInt8) ∉ Ut.encs rs
  | [], _, _ => by simp [Ut.encs]
  | r :: rs, h, h10 => by
    simp only [List.mem_cons, not_or] at h10
    rw [Ut.encs_cons, List.mem_append, not_or]
    exact ⟨lf_enc r (h r (List.mem_cons_self ..)) (fun e => h10.1 e.symm), lf_encs rs (fun u hu => h u (List.mem_cons_of_mem _ hu)) h10.2⟩
theorem count_encs : ∀ rs : List Int, (∀ r ∈ rs, Ut.isR r = true) → Lib.countByte (Ut.encs rs) 10 = rs.count 10
  | [], _ => rfl
  | r :: rs, h => by
    have ih := count_encs rs fun u hu => h u (List.mem_cons_of_mem _ hu)
    unfold Lib.countByte at ih ⊢
    rw [Ut.encs_cons, List.count_append, ih, List.count_cons]
    by_cases h10 : r = 10
    · subst h10
      rw [enc_lf]
      simp
      omega
    · rw [List.count_eq_zero.2 (lf_enc r (h r (List.mem_cons_self ..)) h10)]
      simp [h10]
theorem index_at : ∀ (P Q : List UInt8), (10 : UInt8) ∉ P → Lib.indexByte (P ++ 10 :: Q) 10 = P.length
  | [], Q, _ => by simp [Lib.indexByte]
  | b :: P, Q, h => by
    simp only [List.mem_cons, not_or] at h
    have hb : (b == (10 : UInt8)) = false := by simpa using fun e => h.1 e.symm
    rw [List.cons_append, Lib.indexByte, hb, index_at P Q h.2, if_neg (by simp), if_neg (by simp)]
    simp
theorem index_no : ∀ (P : List UInt8), (10 : UInt8) ∉ P → Lib.indexByte P 10 = -1
  | [], _ => rfl
  | b :: P, h => by
    simp only [List.mem_cons, not_or] at h
    have hb : (b == (10 : UInt8)) = false := by simpa using fun e => h.1 e.symm
    rw [Lib.indexByte, hb, index_no P h.2]
    rfl
theorem cut_at (P Q : List UInt8) (h : (10 : UInt8) ∉ P) : (Lib.cut (P ++ 10 :: Q) [10]).1 = P := by
  unfold Lib.cut
  rw [Lib.index_one, index_at P Q h, if_pos (by omega)]
  simp
theorem cut_no (P : List UInt8) (h : (10 : UInt8) ∉ P) : (Lib.cut P [10]).1 = P := by
  unfold Lib.cut
  rw [Lib.index_one, index_no P h, if_neg (by omega)]
theorem cut_line (p q : List Int) (hp : ∀ r ∈ p, Ut.isR r = true) (h10 : (10 : Int) ∉ p) (hq : q = [] ∨ ∃ q', q = 10 :: q') : (Lib.cut (Ut.encs (p ++ q)) [10]).1 = Ut.encs p := by
  have hb := lf_encs p hp h10
  rw [Ut.encs_app]
  rcases hq with rfl | ⟨q', rfl⟩
  · rw [show Ut.encs [] = [] from rfl, List.append_nil, cut_no _ hb]
  · rw [Ut.encs_cons, enc_lf, List.singleton_append, cut_at _ _ hb]
/-- where line k begins. -/
theorem start_runes (rs : List Int) (hr : ∀ r ∈ rs, Ut.isR r = true) : ∀ k : Nat, k ≤ rs.count 10 → ∃ a b, rs = a ++ b ∧ EndsLf a ∧ (posR a).1 = k ∧ startN k (Ut.encs rs) = (Ut.encs a).length
  | 0, _ => ⟨[], rs, rfl, .inl rfl, rfl, rfl⟩
  | k + 1, h => by
    obtain ⟨a, b, e, ha, hk, hs⟩ := start_runes rs hr k (by omega)
    obtain ⟨p, q, e2, hp, hq⟩ := next_line b
    have hpr : ∀ r ∈ p, Ut.isR r = true := fun r h => hr r (by rw [e, e2]; simp [h])
    rcases hq with rfl | ⟨q', rfl⟩
    · exfalso
      rw [e, e2, List.append_nil, List.count_append, List.count_eq_zero.2 hp, ← posR_count, hk] at h
      omega
    · refine ⟨a ++ p ++ [10], q', by rw [e, e2]; simp, .inr ⟨a ++ p, rfl⟩, ?_, ?_⟩
      · rw [posR_count, List.count_append, List.count_append, List.count_eq_zero.2 hp, ← posR_count, hk]
        simp
      · show startN k (Ut.encs rs) + (Lib.indexByte ((Ut.encs rs).drop (startN k (Ut.encs rs))) 10 + 1).toNat = _
        rw [hs]
        have hd : (Ut.encs rs).drop (Ut.encs a).length = Ut.encs p ++ 10 :: Ut.encs q' := by
          rw [e, Ut.encs_app, List.drop_left, e2, Ut.encs_app, Ut.encs_cons, enc_lf]
          rfl
        rw [hd, index_at _ _ (lf_encs p hpr hp), Ut.encs_app, Ut.encs_app, Ut.encs_cons, enc_lf]
        simp [Ut.encs]

/-! ### offsets and units -/
theorem off_front : ∀ (p : List Int) (o u n x : Int), Ut.offF o u p n = some x → ∃ c d, p = c ++ d ∧ x = o + (Ut.encs c).length ∧ n = u + wid c
  | [], o, u, n, x, h => by
    rw [Ut.offF] at h
    split at h
    · rename_i hu
      simp only [Option.some.injEq] at h
      exact ⟨[], [], rfl, by simp [Ut.encs, h], by simp [wid, hu]⟩
    · cases h
  | r :: p, o, u, n, x, h => by
    rw [Ut.offF] at h
    split at h
    · rename_i hu
      simp only [Option.some.injEq] at h
      exact ⟨[], r :: p, rfl, by simp [Ut.encs, h], by simp [wid, hu]⟩
    · obtain ⟨c, d, e, hx, hn⟩ := off_front p _ _ n x h
      refine ⟨r :: c, d, by rw [e]; rfl, ?_, ?_⟩
      · rw [Ut.encs_cons, List.length_append]
        omega
      · simp only [wid]
        omega
theorem off_back : ∀ (c d : List Int) (o u : Int), Ut.offF o u (c ++ d) (u + wid c) = some (o + (Ut.encs c).length)
  | [], [], o, u => by simp [Ut.offF, wid, Ut.encs]
  | [], r :: d, o, u => by simp [Ut.offF, wid, Ut.encs]
  | r :: c, d, o, u => by
    have := Ut.width_pos r
    have := wid_nonneg c
    rw [List.cons_append, Ut.offF, wid, if_neg (by omega), show u + (Ut.widthR r + wid c) = u + Ut.widthR r + wid c by omega, off_back c d, Ut.encs_cons, List.length_append]
    simp
    omega
theorem unit_end (b : List Int) (hb : ∀ r ∈ b, Ut.isR r = true) : Ut.unitF 0 0 b ((Ut.encs b).length : Nat) = some (wid b) := by
  have h := off_back b [] 0 0
  rw [List.append_nil, Int.zero_add, Int.zero_add] at h
  exact Ut.off_unit b hb _ _ _ _ h
end Go.Proofs.YtdeihlbnlogjcaaDoor
namespace Go.Proofs.YtdeihlbnlogjcaaDoor
open Go.RowKit Go.Lib Go.Shelf
set_option linter.unusedVariables false

/-- line and unit behind bytes. -/
def posB (L : List UInt8) : Nat × Int := posR (Ut.runesF L)
theorem front_runes (L : List UInt8) (n : Nat) (hv : validD (L.take n) = true) : Ut.runesF L = Ut.runesF (L.take n) ++ Ut.runesF (L.drop n) ∧ validD L = validD (L.drop n) := by
  obtain ⟨h1, h2, -⟩ := Ut.valid_all _ hv
  obtain ⟨k1, k2, -⟩ := Ut.valid_encs (Ut.runesF (L.take n)) (L.drop n) h2
  rw [h1, List.take_append_drop] at k1 k2
  exact ⟨k2, k1⟩
theorem front_lt (L : List UInt8) (n m : Nat) (hnm : n < m) (hm : m ≤ L.length) (hn : validD (L.take n) = true) : ltP (posB (L.take n)) (posB (L.take m)) := by
  have ht : (L.take m).take n = L.take n := by rw [List.take_take, Nat.min_eq_left (by omega)]
  obtain ⟨h1, -⟩ := front_runes (L.take m) n (by rw [ht]; exact hn)
  rw [ht] at h1
  have hne : (L.take m).drop n ≠ [] := by
    intro e
    have := congrArg List.length e
    rw [List.length_drop, List.length_take, Nat.min_eq_left hm] at this
    simp at this
    omega
  unfold posB
  rw [h1, Ut.runes_step _ hne]
  exact pos_lt _ _ _
theorem front_inj (L : List UInt8) (n m : Nat) (hn : n ≤ L.length) (hm : m ≤ L.length) (vn : validD (L.take n) = true) (vm : validD (L.take m) = true) (h : posB (L.take n) = posB (L.take m)) : n = m := by
  rcases Nat.lt_trichotomy n m with k | k | k
  · exact absurd (h ▸ front_lt L n m k hm vn) ltP_irrefl
  · exact k
  · exact absurd (h ▸ front_lt L m n k hn vm) ltP_irrefl
theorem valid_front (rs : List Int) (h : ∀ r ∈ rs, Ut.isR r = true) (a b : List Int) (e : rs = a ++ b) : (Ut.encs rs).take (Ut.encs a).length = Ut.encs a ∧ validD (Ut.encs a) = true ∧ Ut.runesF (Ut.encs a) = a ∧ (Ut.encs a).length ≤ (Ut.encs rs).length := by
  obtain ⟨h1, h2, -⟩ := Ut.encs_valid a fun r hr => h r (by rw [e]; exact List.mem_append_left _ hr)
  subst e
  rw [Ut.encs_app]
  exact ⟨List.take_left, h1, h2, by simp⟩
theorem toff_some (L : List UInt8) (hv : validD L = true) (line char : Int) (h : tOffK L line char = 0) :
    ∃ n : Nat, tOffA L line char = n ∧ n ≤ L.length ∧ validD (L.take n) = true ∧ posB (L.take n) = (line.toNat, char) ∧ 0 ≤ line := by
  unfold tOffK at h
  rw [if_pos hv] at h
  by_cases hc : 0 ≤ line ∧ line ≤ Lib.countByte L 10 ∧ offK (ownL L line.toNat) char = 0
  · obtain ⟨h0, h1, h2⟩ := hc
    obtain ⟨k1, k2, -⟩ := Ut.valid_all L hv
    obtain ⟨rs, hrs⟩ : ∃ rs, rs = Ut.runesF L := ⟨_, rfl⟩
    rw [← hrs] at k1 k2
    have hcnt := count_encs rs k2
    rw [k1] at hcnt
    obtain ⟨a, b, e, ha, hk, hs⟩ := start_runes rs k2 line.toNat (by omega)
    obtain ⟨p, q, e2, hp, hq⟩ := next_line b
    have hpr : ∀ r ∈ p, Ut.isR r = true := fun r h => k2 r (by rw [e, e2]; simp [h])
    have hown : ownL L line.toNat = Ut.encs p := by
      unfold ownL
      rw [← k1, hs, e, Ut.encs_app, List.drop_left, e2, cut_line p q hpr hp hq]
    rw [k1] at hs
    unfold tOffA
    rw [if_pos ⟨hv, h0, h1, h2⟩, hs, hown]
    rw [hown] at h2
    obtain ⟨q1, q2, -⟩ := Ut.encs_valid p hpr
    unfold offK at h2
    rw [if_pos q1, q2] at h2
    unfold offA
    rw [if_pos q1, q2]
    cases ho : Ut.offF 0 0 p char with
    | none => rw [ho] at h2; cases h2
    | some x =>
      obtain ⟨c, d, e3, hx, hn⟩ := off_front p 0 0 char x ho
      have eq : rs = (a ++ c) ++ (d ++ q) := by rw [e, e2, e3]; simp
      obtain ⟨f1, f2, f3, f4⟩ := valid_front rs k2 (a ++ c) (d ++ q) eq
      rw [k1] at f1 f4
      refine ⟨(Ut.encs (a ++ c)).length, ?_, f4, by rw [f1]; exact f2, ?_, h0⟩
      · rw [Ut.encs_app, List.length_append, hx]
        show ((Ut.encs a).length : Int) + (0 + (Ut.encs c).length) = _
        omega
      · unfold posB
        have h10 : (10 : Int) ∉ c := fun h => hp (by rw [e3]; exact List.mem_append_left _ h)
        rw [f1, f3, pos_own ha h10, hk, hn, Int.zero_add]
  · rw [if_neg hc] at h
    cases h
theorem prefix_pos {rs a b a' b' : List Int} (e : rs = a ++ b) (e' : rs = a' ++ b') (h : posR a = posR a') : a = a' ∧ b = b' := by
  rw [e] at e'
  rcases List.append_eq_append_iff.1 e' with ⟨x, rfl, rfl⟩ | ⟨x, rfl, rfl⟩
  · cases x with
    | nil => simp
    | cons r x => exact absurd (h ▸ pos_lt a r x) (fun h => ltP_irrefl h)
  · cases x with
    | nil => simp
    | cons r x => exact absurd (h ▸ pos_lt a' r x) (fun h => ltP_irrefl h)
theorem toff_back (L : List UInt8) (hv : validD L = true) (n : Nat) (hn : n ≤ L.length) (vn : validD (L.take n) = true) :
    tOffA L (posB (L.take n)).1 (posB (L.take n)).2 = n ∧ tOffK L (posB (L.take n)).1 (posB (L.take n)).2 = 0 := by
  obtain ⟨k1, k2, -⟩ := Ut.valid_all L hv
  obtain ⟨g1, -⟩ := front_runes L n vn
  obtain ⟨m1, -, -⟩ := Ut.valid_all _ vn
  obtain ⟨rs, hrs⟩ : ∃ rs, rs = Ut.runesF L := ⟨_, rfl⟩
  obtain ⟨f, hf⟩ : ∃ f, f = Ut.runesF (L.take n) := ⟨_, rfl⟩
  obtain ⟨g, hg⟩ : ∃ g, g = Ut.runesF (L.drop n) := ⟨_, rfl⟩
  unfold posB
  rw [← hrs] at k1 k2
  rw [← hrs, ← hf, ← hg] at g1
  rw [← hf] at m1
  rw [← hf]
  obtain ⟨a', c', e', ha', hc'⟩ := last_line f
  have hpf : posR f = ((posR a').1, wid c') := by rw [e', pos_own ha' hc']
  rw [hpf]
  have hcnt := count_encs rs k2
  rw [k1] at hcnt
  have hle : (posR a').1 ≤ rs.count 10 := by
    rw [posR_count, g1, e', List.count_append, List.count_append]
    omega
  obtain ⟨a, b, e, ha, hk, hs⟩ := start_runes rs k2 (posR a').1 hle
  obtain ⟨rfl, hb⟩ := prefix_pos (a' := a') (b' := c' ++ g) e (by rw [g1, e', List.append_assoc]) (Prod.ext hk (by rw [pos_ends ha, pos_ends ha']))
  obtain ⟨p, q, e2, hp, hq⟩ := next_line b
  have hpr : ∀ r ∈ p, Ut.isR r = true := fun r h => k2 r (by rw [e, e2]; simp [h])
  have hown : ownL L (posR a).1 = Ut.encs p := by
    unfold ownL
    rw [← k1, hs, e, Ut.encs_app, List.drop_left, e2, cut_line p q hpr hp hq]
  rw [k1] at hs
  have hcp : ∃ d, p = c' ++ d := by
    rw [e2] at hb
    rcases List.append_eq_append_iff.1 hb with ⟨x, hx1, hx2⟩ | ⟨x, hx1, hx2⟩
    · rcases hq with rfl | ⟨q', rfl⟩
      · have : x = [] := by
          cases x with
          | nil => rfl
          | cons _ _ => simp at hx2
        exact ⟨[], by rw [hx1, this]; simp⟩
      · cases x with
        | nil => exact ⟨[], by rw [hx1]; simp⟩
        | cons r x =>
          rw [List.cons_append, List.cons.injEq] at hx2
          exact absurd (by rw [hx1, ← hx2.1]; simp) hc'
    · exact ⟨x, hx1⟩
  obtain ⟨d, hd⟩ := hcp
  obtain ⟨q1, q2, -⟩ := Ut.encs_valid p hpr
  have ho := off_back c' d 0 0
  rw [← hd, Int.zero_add, Int.zero_add] at ho
  have hK : offK (ownL L (posR a).1) (wid c') = 0 := by
    rw [hown]
    unfold offK
    rw [if_pos q1, q2, ho]
  have hA : offA (ownL L (posR a).1) (wid c') = ((Ut.encs c').length : Nat) := by
    rw [hown]
    unfold offA
    rw [if_pos q1, q2, ho]
  have hcond : (0 : Int) ≤ ((posR a).1 : Nat) ∧ (((posR a).1 : Nat) : Int) ≤ Lib.countByte L 10 := by omega
  have hlen : n = (Ut.encs a).length + (Ut.encs c').length := by
    have := congrArg List.length m1
    rw [e', Ut.encs_app, List.length_append, List.length_take, Nat.min_eq_left hn] at this
    exact this.symm
  unfold tOffA tOffK
  rw [Int.toNat_natCast, if_pos ⟨hv, hcond.1, hcond.2, hK⟩, if_pos hv, if_pos ⟨hcond.1, hcond.2, hK⟩, hA, hs]
  exact ⟨by rw [hlen]; simp, rfl⟩
/-- which place the end of bytes is at, as the program looks for it. -/
theorem last_spec (F : ByteArray) (hv : validD F.data.toList = true) : ∃ S : Nat, Lib.lastIndexByte F 10 + 1 = S ∧ S ≤ F.size ∧ uniA (F.data.toList.drop S) ((F.size : Int) - S) = (posB F.data.toList).2 ∧ uniK (F.data.toList.drop S) ((F.size : Int) - S) = 0 ∧ Lib.countByte F.data.toList 10 = (posB F.data.toList).1 := by
  have hL : F.data.toList.length = F.size := by simp
  obtain ⟨k1, k2, -⟩ := Ut.valid_all _ hv
  obtain ⟨rs, hrs⟩ : ∃ rs, rs = Ut.runesF F.data.toList := ⟨_, rfl⟩
  unfold posB
  rw [← hrs] at k1 k2 ⊢
  obtain ⟨a, b, e, ha, hb⟩ := last_line rs
  have hbr : ∀ r ∈ b, Ut.isR r = true := fun r h => k2 r (by rw [e]; simp [h])
  have hnb := lf_encs b hbr hb
  have hFl : F.data.toList = Ut.encs a ++ Ut.encs b := by rw [← k1, e, Ut.encs_app]
  have hlen : F.size = (Ut.encs a).length + (Ut.encs b).length := by rw [← hL, hFl, List.length_append]
  have hget : ∀ j, j < F.size → (F.data[j]!) ∈ F.data.toList ∧ F.data.toList[j]? = some (F.data[j]!) := by
    intro j hj
    have hj' : j < F.data.size := hj
    have e1 : F.data[j]! = F.data[j] := getElem!_pos F.data j hj'
    rw [e1]
    exact ⟨by simp, by simp⟩
  have hno : ∀ j, (Ut.encs a).length ≤ j → j < F.size → ((F.data[j]!).toNat : Int) ≠ 10 := by
    intro j h1 h2 h10
    obtain ⟨-, hg⟩ := hget j h2
    rw [hFl, List.getElem?_append_right h1] at hg
    have hm := List.mem_of_getElem? hg
    have : F.data[j]! = 10 := UInt8.toNat_inj.1 (by have h10' : (10 : UInt8).toNat = 10 := rfl; omega)
    rw [this] at hm
    exact hnb hm
  have hS : Lib.lastIndexByte F 10 + 1 = ((Ut.encs a).length : Nat) := by
    rcases Lib.lastIndexByte_spec F 10 with ⟨h1, h2⟩ | ⟨i, h1, h2, h3, h4⟩
    · rcases ha with rfl | ⟨a', rfl⟩
      · rw [h1]
        rfl
      · exfalso
        have hla : (Ut.encs (a' ++ [10])).length = (Ut.encs a').length + 1 := by
          rw [Ut.encs_app, Ut.encs_cons, enc_lf]
          simp [Ut.encs]
        have hlt : (Ut.encs a').length < F.size := by omega
        obtain ⟨-, hg⟩ := hget _ hlt
        rw [hFl, Ut.encs_app, Ut.encs_cons, enc_lf, List.append_assoc, List.getElem?_append_right (Nat.le_refl _), Nat.sub_self] at hg
        simp at hg
        exact h2 _ hlt (by rw [← hg]; rfl)
    · rw [h2]
      rcases ha with rfl | ⟨a', rfl⟩
      · exact absurd h3 (hno i (by simp [Ut.encs]) h1)
      · have hla : (Ut.encs (a' ++ [10])).length = (Ut.encs a').length + 1 := by
          rw [Ut.encs_app, Ut.encs_cons, enc_lf]
          simp [Ut.encs]
        rcases Nat.lt_trichotomy i (Ut.encs a').length with h | h | h
        · exfalso
          have hlt : (Ut.encs a').length < F.size := by omega
          obtain ⟨-, hg⟩ := hget _ hlt
          rw [hFl, Ut.encs_app, Ut.encs_cons, enc_lf, List.append_assoc, List.getElem?_append_right (Nat.le_refl _), Nat.sub_self] at hg
          simp at hg
          exact h4 _ h hlt (by rw [← hg]; rfl)
        · omega
        · exact absurd h3 (hno i (by omega) h1)
  obtain ⟨q1, q2, -⟩ := Ut.encs_valid b hbr
  have hu := unit_end b hbr
  have hsub : (F.size : Int) - ((Ut.encs a).length : Nat) = ((Ut.encs b).length : Nat) := by omega
  refine ⟨(Ut.encs a).length, hS, by omega, ?_, ?_, ?_⟩
  · rw [hsub, hFl, List.drop_left, e, pos_own ha hb]
    unfold uniA
    rw [if_pos q1, q2, hu]
  · rw [hsub, hFl, List.drop_left]
    unfold uniK
    rw [if_pos q1, q2, hu]
  · rw [posR_count, ← count_encs rs k2, k1]
end Go.Proofs.YtdeihlbnlogjcaaDoor
