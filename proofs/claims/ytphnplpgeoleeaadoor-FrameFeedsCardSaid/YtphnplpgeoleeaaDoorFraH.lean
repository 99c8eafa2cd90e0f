/- The contracts of frame's headEnd and measure. -/
import Derived.Test.YtphnplpgeoleeaaDoorFraG
import Derived.Test.YtphnplpgeoleeaaDoorShelfH
import Derived.Test.YtphnplpgeoleeaaDoorByt
namespace Go.Proofs.YtphnplpgeoleeaaDoor
open Go.RowKit Go.Lib Go.Shelf
set_option maxRecDepth 100000
set_option linter.unusedVariables false
set_option linter.unusedSectionVars false

def nums (l : List UInt8) : List Int := l.map fun b => (b.toNat : Int)
theorem nums_len (l : List UInt8) : (nums l).length = l.length := by simp [nums]
theorem nums_back (l : List UInt8) : Lib.bytesOf (nums l) = l := by
  unfold Lib.bytesOf nums
  rw [List.map_map]
  conv => rhs; rw [← List.map_id l]
  apply List.map_congr_left
  intro b _
  show UInt8.ofNat ((b.toNat : Int)).toNat = id b
  rw [Int.toNat_natCast]
  exact UInt8.ofNat_toNat
theorem nums_range (l : List UInt8) : ∀ x ∈ nums l, 0 ≤ x ∧ x < 256 := by
  intro x hx
  simp only [nums, List.mem_map] at hx
  obtain ⟨b, _, rfl⟩ := hx
  have := b.toNat_lt
  omega
theorem nums_cell {l : List UInt8} {i : Nat} (h : i < l.length) : (bytesV l)[i]? = some (.int .u8 ((nums l).getD i 0)) := by
  rw [bytesV_get l i h]
  simp [nums, List.getD, List.getElem?_eq_getElem h]
theorem ArgB.addr {w : World} {v : Value} {L : List UInt8} (h : ArgB w v L) : (v = .slice none 0 0 ∧ L = []) ∨ ∃ ad c, v = .slice (some ad) L.length c ∧ L.length ≤ c ∧ ∀ i, i < L.length → w.cell? (ad.add i) = some (.int .u8 ((nums L).getD i 0)) := by
  have h2 := h.1
  rcases h.form with h | ⟨ad, c, rfl, rfl⟩ | ⟨g, o, c, rfl, h0, hc, hg, hr⟩
  · exact .inl h
  · exact .inr ⟨ad, c, rfl, Nat.zero_le _, fun i hi => absurd hi (Nat.not_lt_zero _)⟩
  · exact .inr ⟨_, c, rfl, hc, fun i hi => by rw [add_off, hr i hi, nums_cell hi]⟩
theorem ArgB.below {w w' : World} {v : Value} {L : List UInt8} (h : ArgB w v L) (hb : Below w.heap.size w w') : ArgB w' v L := ⟨(h.1.below hb).more hb.size, h.2⟩
theorem ArgB.take {w : World} {A : Option Addr} {n c : Nat} {L : List UInt8} (h : ArgB w (.slice A n c) L) (m : Nat) (hm : m ≤ n) : ArgB w (.slice A m c) (L.take m) := by
  obtain ⟨⟨hl, A', c', e, hc, hr⟩, h2⟩ := h
  simp only [Value.slice.injEq] at e
  obtain ⟨rfl, rfl, rfl⟩ := e
  have hlen : (L.take m).length = m := by rw [List.length_take]; omega
  refine ⟨⟨by rw [bytesV_len, Nat.mul_one], A, c, by rw [hlen], by rw [hlen]; omega, fun hpos => ?_⟩, ?_⟩
  · rw [hlen] at hpos
    obtain ⟨g, o, rfl, hg, hr⟩ := hr (by omega)
    refine ⟨g, o, rfl, hg, fun j hj => ?_⟩
    rw [hlen] at hj
    rw [hr j (by omega)]
    unfold bytesV
    rw [List.getElem?_map, List.getElem?_map, List.getElem?_take, if_pos (by omega)]
  · rcases h2 with h2 | ⟨a, c2, h2⟩
    · simp only [Value.slice.injEq] at h2
      obtain ⟨rfl, hn, rfl⟩ := h2
      have : m = 0 := by omega
      subst this
      exact .inl rfl
    · simp only [Value.slice.injEq] at h2
      obtain ⟨rfl, -, rfl⟩ := h2
      exact .inr ⟨a, c, by rw [hlen]⟩
def hendF (l : List UInt8) : Nat := if Lib.hasPrefix l nl = true then 2 else if 0 ≤ Lib.index l nl2 then (Lib.index l nl2).toNat + 4 else 0
theorem hendF_le (l : List UInt8) : hendF l ≤ l.length := by
  unfold hendF
  split
  · rename_i h
    have h2 := List.IsPrefix.length_le (List.isPrefixOf_iff_prefix.1 (show nl.isPrefixOf l = true from h))
    exact h2
  · split
    · rename_i h
      have h1 := Lib.index_room l nl2 h
      have h2 : nl2.length = 4 := rfl
      omega
    · omega
theorem hasPrefix_any (v : Value) (l : List UInt8) (w : World) (h : ArgB w v l) (g c : Nat) (hc : c = 2) (hd : ∀ i, i < 2 → w.cell? ((⟨g, 0, none⟩ : Addr).add i) = some (.int .u8 (([13, 10] : List Int).getD i 0))) :
    Calls Tryd.prog 35 #[v, .slice (some ⟨g, 0, none⟩) 2 c] w fun e w' => e = .returned (.bool (Lib.hasPrefix l nl)) ∧ w = w' := by
  rcases h.addr with ⟨rfl, rfl⟩ | ⟨ad, c, rfl, hcc, hr⟩
  · exact (Any.bytes_HasPrefix_all Tryd.laysb116 none (some ⟨g, 0, none⟩) 0 0 2 c [] [13, 10] w rfl rfl (Nat.le_refl _) (Lib.BytesIn.nil _ _ _) (Lib.BytesIn.of_cells hd)).mono fun e w' ⟨h1, h2⟩ => ⟨h1, h2.symm⟩
  · refine (Any.bytes_HasPrefix_all Tryd.laysb116 (some ad) (some ⟨g, 0, none⟩) l.length c 2 _ (nums l) [13, 10] w (nums_len l) rfl hcc (Lib.BytesIn.of_cells hr) (Lib.BytesIn.of_cells hd)).mono fun e w' ⟨h1, h2⟩ => ⟨?_, h2.symm⟩
    rw [h1, nums_back]
    rfl
theorem index_any (v : Value) (l : List UInt8) (w : World) (h : ArgB w v l) (hl : l.length < 4294967281) (hM : MaxL w) (g c : Nat) (hd : ∀ i, i < 4 → w.cell? ((⟨g, 0, none⟩ : Addr).add i) = some (.int .u8 (([13, 10, 13, 10] : List Int).getD i 0))) :
    Calls Tryd.prog 36 #[v, .slice (some ⟨g, 0, none⟩) 4 c] w fun e w' => e = .returned (.int .i64 (Lib.index l nl2)) ∧ Below w.heap.size w w' := by
  rcases h.addr with ⟨rfl, rfl⟩ | ⟨ad, c2, rfl, hcc, hr⟩
  · refine (Any.bytes_Index_nil { Tryd.laysM185 with } (some ⟨g, 0, none⟩) 4 c w (by omega) (fun h => absurd h (by decide))).mono fun e w' ⟨h1, h2⟩ => ⟨h1, h2 ▸ Below.refl _ _⟩
  · obtain ⟨m, hm⟩ := hM
    refine (Any.bytes_Index_at { Tryd.laysM185 with } ad ⟨g, 0, none⟩ l.length c2 4 c (nums l) [13, 10, 13, 10] m w (nums_len l) rfl (nums_range l) (by decide) hr hd hcc hl (by omega) hm).mono fun e w' ⟨h1, q, h2⟩ => ⟨?_, by rw [h2]; exact below_drewN (Below.refl _ _) q⟩
    rw [h1, nums_back]
    rfl
theorem ArgB.shape {w : World} {v : Value} {L : List UInt8} (h : ArgB w v L) : ∃ A c, v = .slice A L.length c ∧ L.length ≤ c := by
  obtain ⟨⟨hl, A, c, e, hc, hr⟩, h2⟩ := h
  exact ⟨A, c, e, hc⟩
theorem lit_cells (W : World) (cs : Array Value) (t : TypeId) (fr : Nat × Nat) (i : Nat) : (W.alloc (.cells cs t fr)).cell? ((⟨W.heap.size, 0, none⟩ : Addr).add i) = cs[i]? := by
  rw [add_off, Nat.zero_add, World.cell?_alloc_mark]
set_option maxHeartbeats 1000000 in
theorem headEnd_any (v : Value) (l : List UInt8) (w : World) (h : ArgB w v l) (hl : l.length < 4294967281) (hM : MaxL w) :
    Calls Tryd.prog 30 #[v] w fun e w' => e = .returned (.int .i64 (hendF l : Nat)) ∧ Below w.heap.size w w' := by
  have HA := Lib.hid h
  have HM := Lib.hid hM
  have hML := maxL_lt hM
  obtain ⟨A, c, rfl, hc⟩ := h.shape
  clear h hM
  have hcv := fun (w : World) (C : Array Value) (n c : Nat) => Lib.run_convert_bytes_const (P := Tryd.prog) w 27 5 C n c Tryd.underlying27 Tryd.underlying5
  have hB1 := (Below.refl w.heap.size w).alloc (Nat.le_refl _) (.cells #[.int .u8 13, .int .u8 10] 5 (2, 3))
  have HHP := Lib.hid (hasPrefix_any _ l (w.alloc (.cells #[.int .u8 13, .int .u8 10] 5 (2, 3))) (HA.out.below hB1) w.heap.size 2 rfl (fun i hi => by
    rw [lit_cells]
    rcases (by omega : i = 0 ∨ i = 1) with rfl | rfl <;> rfl))
  cases hp : Lib.hasPrefix l nl
  · rw [hp] at HHP
    have hB2 := hB1.alloc (by simp) (.cells #[.int .u8 13, .int .u8 10, .int .u8 13, .int .u8 10] 5 (4, 5))
    have HIX := Lib.hid (index_any _ l ((w.alloc (.cells #[.int .u8 13, .int .u8 10] 5 (2, 3))).alloc (.cells #[.int .u8 13, .int .u8 10, .int .u8 13, .int .u8 10] 5 (4, 5))) (HA.out.below hB2) hl (maxL_below HM.out hB2 hML) (w.alloc (.cells #[.int .u8 13, .int .u8 10] 5 (2, 3))).heap.size 4 (fun i hi => by
      rw [lit_cells]
      rcases (by omega : i = 0 ∨ i = 1 ∨ i = 2 ∨ i = 3) with rfl | rfl | rfl | rfl <;> rfl))
    rw [World.size_alloc] at HIX
    have hcv2 := hcv (w.alloc (.cells #[.int .u8 13, .int .u8 10] 5 (2, 3)))
    rw [World.size_alloc] at hcv2
    have HB2 := Lib.hid hB2
    by_cases hi : 0 ≤ Lib.index l nl2
    · have hroom := Lib.index_room l nl2 hi
      have hfour : nl2.length = 4 := rfl
      obtain ⟨k, hk⟩ : ∃ k : Nat, Lib.index l nl2 = k := ⟨(Lib.index l nl2).toNat, by omega⟩
      rw [hk] at HIX hroom
      have HR := Lib.hid (show hendF l = k + 4 by
        unfold hendF
        rw [hp, if_neg (by simp), if_pos hi, hk]
        simp)
      have hk4 : k + 4 ≤ l.length := by omega
      clear hi hroom hk hp hB1 hB2 hfour
      go_enter Tryd.func30, Tryd.ntmps30
      go_wp2_with (first | (go_at_call 35; with_reducible (refine HHP.out.mono ?_); rintro e w1 ⟨rfl, rfl⟩) | (go_at_call 36; with_reducible (refine HIX.out.mono ?_); rintro e w1 ⟨rfl, hb1⟩; have HB3 := Lib.hid hb1; clear hb1))
      go_ret
      exact ⟨by rw [HR.out]; rfl, HB2.out.trans (HB3.out.mono HB2.out.size)⟩
    · have hm1 := Lib.index_ge l nl2
      have hk : Lib.index l nl2 = -1 := by omega
      rw [hk] at HIX
      have HR := Lib.hid (show hendF l = 0 by
        unfold hendF
        rw [hp, if_neg (by simp), if_neg hi])
      clear hi hk hp hB1 hB2 hm1
      go_enter Tryd.func30, Tryd.ntmps30
      go_wp2_with (first | (go_at_call 35; with_reducible (refine HHP.out.mono ?_); rintro e w1 ⟨rfl, rfl⟩) | (go_at_call 36; with_reducible (refine HIX.out.mono ?_); rintro e w1 ⟨rfl, hb1⟩; have HB3 := Lib.hid hb1; clear hb1))
      go_ret
      exact ⟨by rw [HR.out]; rfl, HB2.out.trans (HB3.out.mono HB2.out.size)⟩
  · rw [hp] at HHP
    have HR := Lib.hid (show hendF l = 2 by
      unfold hendF
      rw [if_pos hp])
    have HB1 := Lib.hid hB1
    clear hp hB1
    go_enter Tryd.func30, Tryd.ntmps30
    go_wp2_with (first | (go_at_call 35; with_reducible (refine HHP.out.mono ?_); rintro e w1 ⟨rfl, rfl⟩))
    go_ret
    exact ⟨by rw [HR.out]; rfl, HB1.out⟩
def measF (l : List UInt8) : Nat × Nat × Nat :=
  if hendF (l.take 1024) = 0 then (if 1024 ≤ l.length then (0, 0, 30) else (0, 0, 0))
  else match sizeF (l.take (hendF (l.take 1024))) with
    | none => (0, 0, 30)
    | some n => if 65536 < n then (0, 0, 31) else (hendF (l.take 1024), n, 0)
theorem measF_le (l : List UInt8) : (measF l).1 ≤ 1024 ∧ (measF l).1 ≤ l.length ∧ (measF l).2.1 ≤ 65536 := by
  unfold measF
  have h1 := hendF_le (l.take 1024)
  rw [List.length_take] at h1
  split
  · split <;> simp
  · split
    · simp
    · split
      · simp
      · dsimp only
        omega
theorem sizeF_none {h : List UInt8} (hb : bodyF (linesF h) 0 0 = none) : sizeF h = none := by unfold sizeF; rw [hb]
theorem sizeF_some {h : List UInt8} {s : Nat} (hb : bodyF (linesF h) 0 0 = some (s, 1)) : sizeF h = some s := by simp only [sizeF, hb]
theorem sizeF_many {h : List UInt8} {s f : Nat} (hb : bodyF (linesF h) 0 0 = some (s, f)) (hf : f ≠ 1) : sizeF h = none := by
  unfold sizeF
  rw [hb]
  split
  · rename_i h2
    simp at h2
    exact absurd h2.2 hf
  · rfl
/-- what bodySize answers, in two cases. -/
theorem body_two (h : List UInt8) : (∃ s : Nat, sizeF h = some s ∧ s ≤ 999999 ∧ bodyR h = #[.int .i64 s, .bool true]) ∨ (∃ s : Nat, sizeF h = none ∧ bodyR h = #[.int .i64 s, .bool false]) := by
  unfold bodyR
  cases hb : bodyF (linesF h) 0 0 with
  | none => exact .inr ⟨0, sizeF_none hb, rfl⟩
  | some p =>
    obtain ⟨s, f⟩ := p
    by_cases hf : f = 1
    · subst hf
      exact .inl ⟨s, sizeF_some hb, (bodyF_le _ _ _ _ _ hb).2 (by omega), rfl⟩
    · exact .inr ⟨s, sizeF_many hb hf, by simp [hf]⟩
set_option maxHeartbeats 1000000 in
theorem measure_any (v : Value) (l : List UInt8) (w : World) (h : ArgB w v l) (hl : l.length < 4294967281) (hM : MaxL w) :
    Calls Tryd.prog 25 #[v] w fun e w' => e = .returned (.tuple #[.int .i64 ((measF l).1 : Nat), .int .i64 ((measF l).2.1 : Nat), .int .i64 ((measF l).2.2 : Nat)]) ∧ Below w.heap.size w w' := by
  have hML := maxL_lt hM
  obtain ⟨A, c, rfl, hc⟩ := h.shape
  obtain ⟨m, hm⟩ : ∃ m : Nat, m = min l.length 1024 := ⟨_, rfl⟩
  have hmi : min (l.length : Int) 1024 = (m : Int) := by omega
  have hmc : m ≤ c := by omega
  have htk : l.take m = l.take 1024 := by
    rw [hm]
    by_cases hh : l.length ≤ 1024
    · rw [Nat.min_eq_left hh, List.take_of_length_le (Nat.le_refl _), List.take_of_length_le hh]
    · rw [Nat.min_eq_right (by omega)]
  have hAm := h.take m (by omega)
  rw [htk] at hAm
  have HHE := Lib.hid (headEnd_any _ _ w hAm (by rw [List.length_take]; omega) hM)
  have hel := hendF_le (l.take 1024)
  rw [List.length_take] at hel
  obtain ⟨e, he⟩ : ∃ e, e = hendF (l.take 1024) := ⟨_, rfl⟩
  rw [← he] at HHE hel
  have HMF := Lib.hid (show measF l = if e = 0 then (if 1024 ≤ l.length then (0, 0, 30) else (0, 0, 0)) else match sizeF (l.take e) with | none => (0, 0, 30) | some n => if 65536 < n then (0, 0, 31) else (e, n, 0) by rw [he]; rfl)
  have HA := Lib.hid h
  have HM := Lib.hid hM
  clear hAm htk he h hM
  obtain ⟨n, hn⟩ : ∃ n, n = l.length := ⟨_, rfl⟩
  rw [← hn] at hmi hc HMF hl hel hm ⊢
  have HN := Lib.hid hn
  have hmn : m ≤ n := by omega
  clear hn hm
  by_cases h0 : e = 0
  · subst h0
    by_cases hbig : 1024 ≤ n
    · have hbi : decide ((1024 : Int) ≤ (n : Int)) = true := decide_eq_true (by omega)
      have HR := Lib.hid (show measF l = (0, 0, 30) by rw [HMF.out, if_pos rfl, if_pos hbig])
      clear hbig
      go_enter Tryd.func25, Tryd.ntmps25
      go_wp2_with (first | (go_at_call 30; with_reducible (refine HHE.out.mono ?_); rintro e w1 ⟨rfl, hb1⟩; have HB1 := Lib.hid hb1; clear hb1))
      go_ret3
      exact ⟨by rw [HR.out]; rfl, HB1.out⟩
    · have hbi : decide ((1024 : Int) ≤ (n : Int)) = false := decide_eq_false (by omega)
      have HR := Lib.hid (show measF l = (0, 0, 0) by rw [HMF.out, if_pos rfl, if_neg hbig])
      clear hbig
      go_enter Tryd.func25, Tryd.ntmps25
      go_wp2_with (first | (go_at_call 30; with_reducible (refine HHE.out.mono ?_); rintro e w1 ⟨rfl, hb1⟩; have HB1 := Lib.hid hb1; clear hb1))
      go_ret3
      exact ⟨by rw [HR.out]; rfl, HB1.out⟩
  · have hez : ((e : Int) == 0) = false := beq_eq_false_iff_ne.2 (by omega)
    have hec : e ≤ c := by omega
    have hen : e ≤ n := by omega
    have htl : (l.take e).length ≤ e := by rw [List.length_take]; omega
    have HCV : RowKit.Hid (∀ w', Below w.heap.size w w' → (convert 27 9 (.slice A e c)).run Tryd.prog w' = .ok (.string (bs (l.take e))) w') := fun w' hb =>
      conv_rd (((HA.out.below hb).take e (by rw [← HN.out]; exact hen)).1) _ _ 5 Tryd.underlying27 Tryd.underlying5 Tryd.underlying9
    have hbl : ∀ w', Below w.heap.size w w' → Calls Tryd.prog 31 #[.string (bs (l.take e))] w' (fun r w2 => r = .returned (.tuple (bodyR (l.take e))) ∧ Below w'.heap.size w' w2) := fun w' hb => by
      have h := bodySize_any (bs (l.take e)) w' (by rw [bs_size]; omega) (maxL_below HM.out hb hML)
      unfold BodyPost at h
      rwa [bs_list] at h
    rcases body_two (l.take e) with ⟨s, hs1, hs2, hs3⟩ | ⟨s, hs1, hs3⟩
    · rw [hs3] at hbl
      have HBS := Lib.hid hbl
      by_cases hbig : 65536 < s
      · have hbi : decide ((65536 : Int) < (s : Int)) = true := decide_eq_true (by omega)
        have HR := Lib.hid (show measF l = (0, 0, 31) by rw [HMF.out, if_neg h0, hs1]; dsimp only; rw [if_pos hbig])
        clear hs1 hs3 hbl hbig htl h0
        go_enter Tryd.func25, Tryd.ntmps25
        go_wp2_with (first | (go_at_call 30; with_reducible (refine HHE.out.mono ?_); rintro e w1 ⟨rfl, hb1⟩; have HB1 := Lib.hid hb1; have hcv := HCV.out w1 hb1; have HBS1 := Lib.hid (HBS.out w1 hb1); clear hb1) | (go_at_call 31; with_reducible (refine HBS1.out.mono ?_); rintro e w2 ⟨rfl, hb2⟩; have HB2 := Lib.hid hb2; clear hb2))
        go_ret3
        exact ⟨by rw [HR.out]; rfl, HB1.out.trans (HB2.out.mono HB1.out.size)⟩
      · have hbi : decide ((65536 : Int) < (s : Int)) = false := decide_eq_false (by omega)
        have HR := Lib.hid (show measF l = (e, s, 0) by rw [HMF.out, if_neg h0, hs1]; dsimp only; rw [if_neg hbig])
        clear hs1 hs3 hbl hbig htl h0
        go_enter Tryd.func25, Tryd.ntmps25
        go_wp2_with (first | (go_at_call 30; with_reducible (refine HHE.out.mono ?_); rintro e w1 ⟨rfl, hb1⟩; have HB1 := Lib.hid hb1; have hcv := HCV.out w1 hb1; have HBS1 := Lib.hid (HBS.out w1 hb1); clear hb1) | (go_at_call 31; with_reducible (refine HBS1.out.mono ?_); rintro e w2 ⟨rfl, hb2⟩; have HB2 := Lib.hid hb2; clear hb2))
        go_ret3
        exact ⟨by rw [HR.out]; rfl, HB1.out.trans (HB2.out.mono HB1.out.size)⟩
    · rw [hs3] at hbl
      have HBS := Lib.hid hbl
      have HR := Lib.hid (show measF l = (0, 0, 30) by rw [HMF.out, if_neg h0, hs1])
      clear hs1 hs3 hbl htl h0
      go_enter Tryd.func25, Tryd.ntmps25
      go_wp2_with (first | (go_at_call 30; with_reducible (refine HHE.out.mono ?_); rintro e w1 ⟨rfl, hb1⟩; have HB1 := Lib.hid hb1; have hcv := HCV.out w1 hb1; have HBS1 := Lib.hid (HBS.out w1 hb1); clear hb1) | (go_at_call 31; with_reducible (refine HBS1.out.mono ?_); rintro e w2 ⟨rfl, hb2⟩; have HB2 := Lib.hid hb2; clear hb2))
      go_ret3
      exact ⟨by rw [HR.out]; rfl, HB1.out.trans (HB2.out.mono HB1.out.size)⟩
end Go.Proofs.YtphnplpgeoleeaaDoor
