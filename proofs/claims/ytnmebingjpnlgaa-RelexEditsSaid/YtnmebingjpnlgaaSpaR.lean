/- The contracts of CopyTokens, of the document's Spans, and of sameSpans. -/
import Derived.Test.YtnmebingjpnlgaaSpaD
import Derived.Test.YtnmebingjpnlgaaArgT
import Derived.Test.YtnmebingjpnlgaaRelH
import Derived.ChangeKeysEq
import Derived.Deep.QuietTactic
import Derived.BigQuiet
import Derived.Deep.RegionWith
namespace Go.Proofs.Ytnmebingjpnlgaa
open Go.RowKit Go.Lib
set_option maxRecDepth 100000
set_option linter.unusedVariables false
set_option linter.unusedSectionVars false

theorem its_plain (ts : List IT) : ∀ u ∈ itsCells ts, u.oneCell' = true := by
  intro u hu
  simp only [itsCells, List.mem_flatMap, itCells, List.mem_cons, List.mem_nil_iff, or_false] at hu
  obtain ⟨t, _, rfl | rfl | rfl⟩ := hu <;> rfl
def OwnPost (ts : List IT) (w : World) (e : Ending) (w' : World) : Prop :=
  ∃ v, e = .returned v ∧ w'.ownsRow w.heap.size 27 3 v ts.length (itsCells ts) ∧ Below w.heap.size w w'
theorem rd_at {w : World} {B n : Nat} {ad : Addr} {c : Nat} {ts : List IT} (h : Rd w B 3 (.slice (some ad) n c) n (itsCells ts)) (hn : n = ts.length) : ∀ (j : Nat) (u : Value), (itsCells ts)[j]? = some u → w.cell? (ad.add j) = some u := by
  intro j u hu
  have hj : j < (itsCells ts).length := (List.getElem?_eq_some_iff.1 hu).1
  rw [its_len] at hj
  obtain ⟨_, A, c', e, _, hr⟩ := h
  obtain ⟨g, o, rfl, _, hr⟩ := hr (by omega)
  simp only [Value.slice.injEq, Option.some.injEq] at e
  obtain ⟨rfl, _, _⟩ := e
  rw [show Addr.add ⟨g, o, none⟩ j = ⟨g, o + j, none⟩ by simp [Addr.add], hr j (by omega)]
  exact hu
theorem copy_any (v : Value) (ts : List IT) (w : World) (h : ArgT w v ts) (hl : ts.length ≤ 1099511627776) :
    Calls Try.prog 10 #[v] w (OwnPost ts w) := by
  obtain ⟨h1, h2⟩ := h
  obtain ⟨i0, hi, hz0, hz1, hz2⟩ := info_parts Try.infoTok
  have HO := Lib.hid (World.ownsRow_lit (e := 27) (size := 3) w #[] 0 (Nat.le_refl _) (by unfold maxLen; omega) rfl)
  obtain ⟨n, hn⟩ : ∃ n, n = ts.length := ⟨_, rfl⟩
  rw [← hn] at h1 h2 hl
  have HR := Lib.hid h1
  have HN := Lib.hid hn
  clear h1 hn
  rcases h2 with rfl | ⟨ad, c, rfl⟩
  · have hn0 : n = 0 := by
      obtain ⟨_, A, c', e, _⟩ := HR.out
      simp only [Value.slice.injEq] at e
      omega
    go_enter Try.func10, Try.ntmps10
    go_wp2
    go_ret
    obtain rfl : ts = [] := List.eq_nil_of_length_eq_zero (by rw [← HN.out]; exact hn0)
    exact ⟨_, rfl, HO.out, (Below.refl _ _).alloc (Nat.le_refl _) _⟩
  · have HR1 := Lib.hid (rd_at (HR.out.alloc (Nat.le_refl _) (.cells #[] 27)) HN.out)
    go_enter Try.func10, Try.ntmps10
    go_wp2_with (at_builtin; refine wpList_append_own _ rfl _ _ 23 rfl w.heap.size 27 i0 _ 3 24 Try.underlying23 hi hz0 hz1 hz2 rfl (by decide) _ _ _ rfl HO.out ad n c (itsCells ts) rfl (HN.out ▸ its_len ts) HR1.out (its_plain _) (by unfold maxLen; omega) (by omega) (by simp) ?_; intro v' w1 hown hgrow hnil)
    go_ret
    refine ⟨_, rfl, ?_, ((Below.refl _ _).alloc (Nat.le_refl _) _).grown hgrow (by simp) (fun g e => by cases e; exact Nat.le_refl _)⟩
    rw [Nat.zero_add] at hown
    rw [← HN.out]
    exact hown
theorem run_neq_pair (W : World) (a b : Int) : (binOp .neq 43 (.agg #[.int .i64 a, .int .i64 b]) (.agg #[.int .i64 a, .int .i64 b])).run Try.prog W = .ok (.bool false) W := by
  obtain ⟨i, hi⟩ : ∃ i, Try.prog.info? 3 = some i := ⟨_, rfl⟩
  rw [run_neq_struct, run_equalIn_array W 9999 _ _ Try.underlying43 hi]
  have hc : Try.prog.cellsOf 3 = 1 := by kernel_rfl
  simp [List.range_succ, Op.eqItems, part, isAgg, run_underlying Try.underlying3, hc]
  simp [go_sem, run_equalIn_int W _ _ .i64 .i64 _ _ Try.underlying3]
def TrueDraw (w : World) (e : Ending) (w' : World) : Prop := e = .returned (.bool true) ∧ ∃ q, w' = w.drewN q
set_option maxHeartbeats 1000000 in
/-- lists of spans that are alike. -/
theorem sameSpans_yes (v1 v2 : Value) (sp : List (Int × Int)) (w : World) (B1 B2 : Nat) (h1 : Rd w B1 2 v1 sp.length (spCells sp)) (h2 : Rd w B2 2 v2 sp.length (spCells sp)) (hb : sp.length ≤ 1099511627776) :
    Calls Try.prog 14 #[v1, v2] w (TrueDraw w) := by
  obtain ⟨hl1, A1, c1, rfl, hc1, h1⟩ := h1
  obtain ⟨hl2, A2, c2, rfl, hc2, h2⟩ := h2
  obtain ⟨n, hn⟩ : ∃ n, n = sp.length := ⟨_, rfl⟩
  rw [← hn] at h1 h2 hc1 hc2 hb ⊢
  have HN := Lib.hid hn
  have R1 := Lib.hid h1
  have R2 := Lib.hid h2
  clear hn hl1 hl2 h1 h2
  have hnq := run_neq_pair
  go_enter Try.func14, Try.ntmps14
  go_wp2
  go_loopw [5] (fun i wr => ∃ k q : Nat, k ≤ n ∧ i = .int .i64 k ∧ wr = w.drewN q) (fun i _ => n - (intOf i).toNat)
  case atStart => exact ⟨0, 0, by omega, rfl, rfl⟩
  case round =>
    obtain ⟨k, q, hk, rfl, rfl⟩ := hrel
    by_cases hlt : k < n
    · obtain ⟨g1, o1, rfl, hg1, hr1⟩ := R1.out (by omega)
      obtain ⟨g2, o2, rfl, hg2, hr2⟩ := R2.out (by omega)
      obtain ⟨x, hx⟩ : ∃ x, sp[k]? = some x := ⟨_, List.getElem?_eq_getElem (by have := HN.out; omega)⟩
      obtain ⟨a0, a1⟩ := rd_sp hr1 HN.out hx
      obtain ⟨b0, b1⟩ := rd_sp hr2 HN.out hx
      have hkn : (k : Int) < n := by omega
      clear hr1 hr2 hx
      go_wp2
      go_quiet (fail)
      go_wp2
      go_roundw
      case rel => exact ⟨k + 1, q + nq, by omega, by go_num, rfl⟩
      case measure => simp [intOf]; omega
    · go_wp2
      go_ret
      exact ⟨rfl, q, rfl⟩
end Go.Proofs.Ytnmebingjpnlgaa
