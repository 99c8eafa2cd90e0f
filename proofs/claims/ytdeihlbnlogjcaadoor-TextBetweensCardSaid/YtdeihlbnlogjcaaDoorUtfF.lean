/- The contract of utf's Join. -/
import Derived.Test.YtdeihlbnlogjcaaDoorUtfE
namespace Go.Proofs.YtdeihlbnlogjcaaDoor
open Go.RowKit Go.Lib Go.Shelf
set_option maxRecDepth 100000
set_option linter.unusedVariables false
set_option linter.unusedSectionVars false

/-- what Join answers. -/
def JoinPost (l : List Int) (w : World) (e : Ending) (w' : World) : Prop :=
  (match Ut.joinF l with | some rs => ∃ v, e = .returned (.tuple #[v, .int .i64 0]) ∧ Ints w.heap.size rs v w' | none => e = .returned (.tuple #[.slice none 0 0, .int .i64 40])) ∧ Below w.heap.size w w'
theorem join_cons (u : Int) (rest : List Int) (h : ∀ v t, rest = v :: t → ¬ (Ut.isHi u = true ∧ Ut.isLo v = true)) : Ut.joinF (u :: rest) = if u < 65536 ∧ Ut.isR u = true then (Ut.joinF rest).map (u :: ·) else none := by
  cases rest with
  | nil =>
    rw [Ut.joinF]
    rfl
  | cons v t => rw [Ut.joinF, if_neg (h v t rfl)]
def JRel (l acc : List Int) (k : Nat) : Prop := Ut.joinF l = (Ut.joinF (l.drop k)).map (acc ++ ·)
theorem jrel_zero (l : List Int) : JRel l [] 0 := by
  unfold JRel
  rw [List.drop_zero]
  cases Ut.joinF l <;> simp
theorem get_drop {l : List Int} {k : Nat} {u : Int} (h : l[k]? = some u) : l.drop k = u :: l.drop (k + 1) := by
  obtain ⟨h1, rfl⟩ := List.getElem?_eq_some_iff.1 h
  exact List.drop_eq_getElem_cons h1
section
variable {l acc : List Int} {k : Nat} {u v : Int} (hr : JRel l acc k) (hu : l[k]? = some u)
include hr hu
theorem jrel_pair (hv : l[k + 1]? = some v) (h1 : Ut.isHi u = true) (h2 : Ut.isLo v = true) : JRel l (acc ++ [Ut.pairR u v]) (k + 2) := by
  unfold JRel at hr ⊢
  rw [hr, get_drop hu, get_drop hv, Ut.joinF, if_pos ⟨h1, h2⟩]
  cases Ut.joinF (l.drop (k + 1 + 1)) <;> simp
theorem jrel_one (hn : ∀ v, l[k + 1]? = some v → ¬ (Ut.isHi u = true ∧ Ut.isLo v = true)) (h1 : u < 65536 ∧ Ut.isR u = true) : JRel l (acc ++ [u]) (k + 1) := by
  unfold JRel at hr ⊢
  rw [hr, get_drop hu, join_cons u _ (fun v t e => hn v (by
    have := congrArg List.head? e
    rw [List.head?_drop] at this
    simpa using this)), if_pos h1]
  cases Ut.joinF (l.drop (k + 1)) <;> simp
theorem jrel_bad (hn : ∀ v, l[k + 1]? = some v → ¬ (Ut.isHi u = true ∧ Ut.isLo v = true)) (h1 : ¬ (u < 65536 ∧ Ut.isR u = true)) : Ut.joinF l = none := by
  unfold JRel at hr
  rw [hr, get_drop hu, join_cons u _ (fun v t e => hn v (by
    have := congrArg List.head? e
    rw [List.head?_drop] at this
    simpa using this)), if_neg h1]
  rfl
end
set_option maxHeartbeats 4000000 in
theorem join_any (v : Value) (l : List Int) (w : World) (B : Nat) (hB : B ≤ w.heap.size) (h : Rd w B 1 v l.length (intsV l)) (hl : l.length ≤ 4294967296) :
    Calls Tryd.prog 32 #[v] w (JoinPost l w) := by
  obtain ⟨i0, hi, hz0, hz1, hz2⟩ := info_parts infoInt
  obtain ⟨-, A, c, rfl, hc, hr0⟩ := h
  obtain ⟨n, hn⟩ : ∃ n, n = l.length := ⟨_, rfl⟩
  rw [← hn] at hr0 hc hl ⊢
  have HN := Lib.hid hn
  have HR := Lib.hid hr0
  have hmk := fun W : World => run_make (P := Tryd.prog) W 27 3 i0 _ Tryd.underlying27 hi hz0 .i64 .i64 0 n (by omega) (by omega) (by rw [hz2]; omega) (by omega)
  simp only [Int.toNat_zero, Int.toNat_natCast, hz1, Nat.mul_one] at hmk
  have HMA := Lib.hid (Ints.made (W := w) (B := w.heap.size) (n := n) (by omega) (Nat.le_refl _))
  clear hn hr0
  go_enter Tryd.func32, Tryd.ntmps32
  go_wp2
  go_loopw [4, 5] (fun v i wr => ∃ (k : Nat) (acc : List Int), k ≤ n ∧ i = .int .i64 k ∧ acc.length ≤ k ∧ RowKit.Hid (JRel l acc k) ∧ RowKit.Hid (Ints w.heap.size acc v wr) ∧ RowKit.Hid (Below w.heap.size w wr)) (fun _ i _ => n - (RowKit.intOf i).toNat)
  case atStart => exact ⟨0, [], by omega, rfl, by simp, jrel_zero l, HMA.out, (Below.refl _ _).alloc (Nat.le_refl _) _⟩
  case round =>
    obtain ⟨k, acc, hk, rfl, hal, HJ, HI, HB⟩ := hrel
    have hsz : w.heap.size ≤ wr.heap.size := HB.out.size
    clear hmk
    by_cases hlt : k < n
    · obtain ⟨g, o, rfl, hg, hr⟩ := HR.out (by omega)
      obtain ⟨u, huk, d0⟩ := rd_int hr HN.out hlt
      have c0 := (HB.out.cell (p := ⟨g, o + k, none⟩) (by show g < _; omega)).trans d0
      have hkn : (k : Int) < n := by omega
      have HU := Lib.hid huk
      have HO := Lib.hid HI.out.2
      have HIR := Lib.hid (fun W => isRune_any u W)
      by_cases hpair : ∃ v, l[k + 1]? = some v ∧ Ut.isHi u = true ∧ Ut.isLo v = true
      · obtain ⟨v, hv, h1, h2⟩ := hpair
        have hlt2 : k + 1 < n := by have := HN.out; have := (List.getElem?_eq_some_iff.1 hv).1; omega
        obtain ⟨v', hv', d1⟩ := rd_int hr HN.out hlt2
        obtain rfl : v = v' := by rw [hv] at hv'; exact Option.some.inj hv'
        have c1 := (HB.out.cell (p := ⟨g, o + (k + 1), none⟩) (by show g < _; omega)).trans d1
        have HJ2 := Lib.hid (jrel_pair HJ.out HU.out hv h1 h2)
        simp only [Ut.isHi, Ut.isLo, decide_eq_true_eq] at h1 h2
        obtain ⟨a1, a2⟩ := h1
        obtain ⟨a3, a4⟩ := h2
        have hkn2 : (k : Int) + 1 < n := by omega
        clear hr d0 d1 huk hv hv'
        go_wp2_with (at_builtin; refine wpList_append_own _ rfl _ _ 27 rfl w.heap.size 3 i0 _ 1 8 Tryd.underlying27 hi hz0 hz1 hz2 rfl (by decide) _ _ _ rfl (HO.out.alloc _) ⟨wr.heap.size, 0, none⟩ 1 1 (intsV [65536 + (u - 55296) * 1024 + (v - 56320)]) rfl rfl (cell_one_new _ _ _) (intsV_plain _) (by unfold maxLen; omega) (by omega) (by simp; omega) ?_; intro v' w3 hown' hgrow hnil; have HST := Lib.hid (ints_next rfl (by simp) HB.out HO.out hown' hgrow hnil); clear hown' hgrow hnil)
        go_roundw
        case rel => exact ⟨k + 2, acc ++ [Ut.pairR u v], by omega, by go_num, by rw [List.length_append]; simp; omega, HJ2, HST.out.1, HST.out.2⟩
        case measure => simp [RowKit.intOf]; omega
      · have HNP := Lib.hid (show ∀ v, l[k + 1]? = some v → ¬ (Ut.isHi u = true ∧ Ut.isLo v = true) from fun v hv h => hpair ⟨v, hv, h.1, h.2⟩)
        clear hpair
        obtain ⟨v, hv⟩ : ∃ v : Int, k + 1 < n → l[k + 1]? = some v ∧ wr.cell? ⟨g, o + (k + 1), none⟩ = some (.int .i64 v) := by
          by_cases hlt2 : k + 1 < n
          · obtain ⟨v, hv, d1⟩ := rd_int hr HN.out hlt2
            exact ⟨v, fun _ => ⟨hv, (HB.out.cell (p := ⟨g, o + (k + 1), none⟩) (by show g < _; omega)).trans d1⟩⟩
          · exact ⟨0, fun h => absurd h hlt2⟩
        have HCON := Lib.hid (show k + 1 < n → ¬ (((55296 ≤ u ∧ u < 56320) ∧ 56320 ≤ v) ∧ v < 57344) from fun h hh => by
          have := HNP.out v (hv h).1
          simp only [Ut.isHi, Ut.isLo, decide_eq_true_eq] at this
          exact this ⟨⟨by omega, by omega⟩, by omega, by omega⟩)
        by_cases hok : u < 65536 ∧ Ut.isR u = true
        · have HJ2 := Lib.hid (jrel_one HJ.out HU.out HNP.out hok)
          obtain ⟨ho1, ho2⟩ := hok
          rw [ho2] at HIR
          clear ho2
          by_cases hlt2 : k + 1 < n
          · have c1 := (hv hlt2).2
            have hkn2 : (k : Int) + 1 < n := by omega
            clear hr d0 huk hv
            go_wp2_with (first | (go_at_call 57; with_reducible (refine (HIR.out _).mono ?_); rintro e w1 ⟨rfl, rfl⟩) | (at_builtin; refine wpList_append_own _ rfl _ _ 27 rfl w.heap.size 3 i0 _ 1 8 Tryd.underlying27 hi hz0 hz1 hz2 rfl (by decide) _ _ _ rfl (HO.out.alloc _) ⟨wr.heap.size, 0, none⟩ 1 1 (intsV [u]) rfl rfl (cell_one_new _ _ _) (intsV_plain _) (by unfold maxLen; omega) (by omega) (by simp; omega) ?_; intro v' w3 hown' hgrow hnil; have HST := Lib.hid (ints_next rfl (by simp) HB.out HO.out hown' hgrow hnil); clear hown' hgrow hnil))
            all_goals first
              | (go_roundw
                 case rel => exact ⟨k + 1, acc ++ [u], by omega, by go_num, by rw [List.length_append]; simp; omega, HJ2, HST.out.1, HST.out.2⟩
                 case measure => simp [RowKit.intOf]; omega)
              | (exfalso; exact HCON.out (by omega) ⟨⟨⟨by omega, by omega⟩, by omega⟩, by omega⟩)
          · have hkn2 : ¬ (k : Int) + 1 < n := by omega
            clear hr d0 huk hv
            go_wp2_with (first | (go_at_call 57; with_reducible (refine (HIR.out _).mono ?_); rintro e w1 ⟨rfl, rfl⟩) | (at_builtin; refine wpList_append_own _ rfl _ _ 27 rfl w.heap.size 3 i0 _ 1 8 Tryd.underlying27 hi hz0 hz1 hz2 rfl (by decide) _ _ _ rfl (HO.out.alloc _) ⟨wr.heap.size, 0, none⟩ 1 1 (intsV [u]) rfl rfl (cell_one_new _ _ _) (intsV_plain _) (by unfold maxLen; omega) (by omega) (by simp; omega) ?_; intro v' w3 hown' hgrow hnil; have HST := Lib.hid (ints_next rfl (by simp) HB.out HO.out hown' hgrow hnil); clear hown' hgrow hnil))
            all_goals
              go_roundw
              case rel => exact ⟨k + 1, acc ++ [u], by omega, by go_num, by rw [List.length_append]; simp; omega, HJ2, HST.out.1, HST.out.2⟩
              case measure => simp [RowKit.intOf]; omega
        · have HJ2 := Lib.hid (jrel_bad HJ.out HU.out HNP.out hok)
          have HOK := Lib.hid hok
          clear hok
          by_cases hw : u < 65536
          · have hr0 : Ut.isR u = false := by
              rw [← Bool.not_eq_true]
              exact fun h => HOK.out ⟨hw, h⟩
            rw [hr0] at HIR
            clear hr0
            by_cases hlt2 : k + 1 < n
            · have c1 := (hv hlt2).2
              have hkn2 : (k : Int) + 1 < n := by omega
              clear hr d0 huk hv
              go_wp2_with (first | (go_at_call 57; with_reducible (refine (HIR.out _).mono ?_); rintro e w1 ⟨rfl, rfl⟩))
              all_goals first
                | (exfalso; exact HCON.out (by omega) ⟨⟨⟨by omega, by omega⟩, by omega⟩, by omega⟩)
                | (go_ret2; exact ⟨by rw [HJ2.out]; rfl, HB.out⟩)
            · have hkn2 : ¬ (k : Int) + 1 < n := by omega
              clear hr d0 huk hv
              go_wp2_with (first | (go_at_call 57; with_reducible (refine (HIR.out _).mono ?_); rintro e w1 ⟨rfl, rfl⟩))
              all_goals (go_ret2; exact ⟨by rw [HJ2.out]; rfl, HB.out⟩)
          · have hw2 : ¬ u < 56320 := by omega
            have hw3 : 55296 ≤ u := by omega
            clear hr d0 huk hv
            go_wp2
            all_goals (go_ret2; exact ⟨by rw [HJ2.out]; rfl, HB.out⟩)
    · have e : k = n := by omega
      have HJE := Lib.hid (show Ut.joinF l = some acc by
        have h := HJ.out
        unfold JRel at h
        rw [h, e, HN.out, List.drop_length]
        simp [Ut.joinF])
      go_wp2
      go_ret2
      exact ⟨by rw [HJE.out]; exact ⟨_, rfl, HI.out⟩, HB.out⟩
end Go.Proofs.YtdeihlbnlogjcaaDoor
