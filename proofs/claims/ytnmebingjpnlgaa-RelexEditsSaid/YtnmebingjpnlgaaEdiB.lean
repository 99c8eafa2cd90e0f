/- RelexEdits answers true: the walk. -/
import Derived.Test.YtnmebingjpnlgaaEdiA
import Derived.Test.YtnmebingjpnlgaaRowB
import Derived.Test.YtnmebingjpnlgaaSpaR
namespace Go.Proofs.Ytnmebingjpnlgaa
open Go.RowKit Go.Lib
set_option maxRecDepth 100000
set_option linter.unusedVariables false
set_option linter.unusedSectionVars false

/-- the copy of a text's own tokens. -/
theorem copy_own (S : ByteArray) (v : Value) (w : World) (h : TokV S v w) (hl : (Lx.lexF S.data.toList).length ≤ 1099511627776) :
    Calls Try.prog 10 #[v] w fun e w' => ∃ v', e = .returned v' ∧ RowKit.Hid (w'.ownsRow w.heap.size 27 3 v' (Lx.lexF S.data.toList).length (toksCells (Lx.lexF S.data.toList))) ∧ Below w.heap.size w w' := by
  have e : ((Lx.lexF S.data.toList).map toIT).length = (Lx.lexF S.data.toList).length := List.length_map ..
  refine (copy_any v ((Lx.lexF S.data.toList).map toIT) w ⟨by rw [← its_toks, e]; exact h.1, by
    rw [e]
    rcases h.2 with h | ⟨g, o, c, h⟩
    · exact .inl h
    · exact .inr ⟨_, c, h⟩⟩ (by rw [e]; exact hl)).mono ?_
  rintro e' w' ⟨v', rfl, ho, hb⟩
  rw [← its_toks, e] at ho
  exact ⟨v', rfl, ho, hb⟩
/-- a copy of a row of n tokens and one of kind 9 behind. -/
def Own9 (S : ByteArray) (g c : Nat) (w : World) : Prop := w.heap.size > g ∧ Rd w w.heap.size 3 (.slice (some ⟨g, 0, none⟩) (Lx.lexF S.data.toList).length c) (Lx.lexF S.data.toList).length (toksCells (Lx.lexF S.data.toList)) ∧ w.cell? ⟨g, (Lx.lexF S.data.toList).length * 3, none⟩ = some (.int .i64 9)
theorem Own9.below {S : ByteArray} {g c : Nat} {w w' : World} (h : Own9 S g c w) (hb : Below w.heap.size w w') : Own9 S g c w' :=
  ⟨by have := hb.size; have := h.1; omega, (h.2.1.below hb).more hb.size, (hb.cell (p := ⟨g, _, none⟩) h.1).trans h.2.2⟩
theorem own9_new {S : ByteArray} {w : World} {base : Nat} {v : Value} (h : w.ownsRow base 27 3 v ((Lx.lexF S.data.toList).length + 1) (toksCells (Lx.lexF S.data.toList) ++ [.int .i64 9, .int .i64 0, .int .i64 0])) :
    ∃ g c, v = .slice (some ⟨g, 0, none⟩) ((Lx.lexF S.data.toList).length + 1) c ∧ (Lx.lexF S.data.toList).length + 1 ≤ c ∧ Own9 S g c w := by
  have hr := Rd.of_own h
  obtain ⟨g, c, rfl⟩ := own_form h (fun e => by rcases h.2 with ⟨_, h⟩ | ⟨_, _, _, h', _⟩; · omega
                                                · rw [e] at h'; simp at h')
  obtain ⟨hl, A, c', e, hc, hr⟩ := hr
  simp only [Value.slice.injEq] at e
  obtain ⟨rfl, _, rfl⟩ := e
  obtain ⟨g', o, e, hg, hr⟩ := hr (by omega)
  simp only [Option.some.injEq, Addr.mk.injEq, and_true] at e
  obtain ⟨rfl, rfl⟩ := e
  refine ⟨g, c, rfl, hc, hg, ⟨toksCells_len _, _, c, rfl, by omega, fun h0 => ⟨g, 0, rfl, hg, fun j hj => ?_⟩⟩, ?_⟩
  · rw [hr j (by omega), List.getElem?_append_left (by rw [toksCells_len]; exact hj)]
  · have := hr ((Lx.lexF S.data.toList).length * 3) (by omega)
    rw [Nat.zero_add] at this
    rw [this, List.getElem?_append_right (by rw [toksCells_len]; exact Nat.le_refl _), toksCells_len, Nat.sub_self]
    rfl
theorem after9 {S : ByteArray} {w2 w3 w4 : World} {o : Obj} {v3 v4 : Value} {nv : Nat} {xs : List Value} (hB : Below w2.heap.size w2 w3) (h3 : w3.ownsRow w2.heap.size 27 3 v3 nv xs) (hn : nv = (Lx.lexF S.data.toList).length)
    (h4 : w4.ownsRow w2.heap.size 27 3 v4 (nv + 1) (toksCells (Lx.lexF S.data.toList) ++ [.int .i64 9, .int .i64 0, .int .i64 0])) (hg : (w3.alloc o).grownBy w4 v3.ownBlock) :
    (∃ g c, v4 = .slice (some ⟨g, 0, none⟩) (nv + 1) c ∧ nv + 1 ≤ c ∧ RowKit.Hid (Own9 S g c w4)) ∧ Below w2.heap.size w2 w4 := by
  subst hn
  exact ⟨own9_new h4, (hB.alloc hB.size o).grown hg (by have := hB.size; simp; omega) (fun k e => (h3.lt k e).1)⟩
theorem own9_relex {S more : ByteArray} {g c nv fr to : Nat} {w : World} (hn : nv = (Lx.lexF S.data.toList).length) (h : Own9 S g c w) (hs : S.size ≤ 1073741824) (hm : more.size ≤ 1073741824) (g2 : fr ≤ to) (g3 : to ≤ S.size) :
    Calls Try.prog 11 #[.string S, .slice (some ⟨g, 0, none⟩) nv c, .int .i64 (fr : Int), .int .i64 (to : Int), .string more] w (RelexPost S.data.toList more.data.toList fr to w) := by
  subst hn
  exact relex_own S more _ fr to w w.heap.size (Nat.le_refl _) h.2.1 (.inr ⟨g, 0, c, rfl⟩) hs hm g2 g3
theorem same_own9 {S : ByteArray} {g c nv : Nat} {w : World} {v : Value} (hn : nv = (Lx.lexF S.data.toList).length) (h : Own9 S g c w) (hT : TokV S v w) (hb : nv ≤ 1152921504606846976) :
    Calls Try.prog 13 #[.slice (some ⟨g, 0, none⟩) nv c, v] w fun e w'' => e = .returned (.bool true) ∧ ∃ m, w'' = w.drewN m := by
  subst hn
  exact same_self h.2.1 hT.1 hb
set_option maxHeartbeats 4000000 in
theorem relexEdits_walk (a0 : ByteArray) (a1 a2 : Int) (a3 : ByteArray) (w : World) (w0 : a0.size ≤ 140737488351232) (w1 : (Lit.int .i64 a1).wf = true) (w2 : (Lit.int .i64 a2).wf = true) (w3 : a3.size ≤ 140737488351232) :
    Calls Try.prog 3 #[.string a0, .int .i64 a1, .int .i64 a2, .string a3] w (TruePost w) := by
  clear w1 w2
  by_cases hsz : a0.size + a3.size ≤ 20000
  · have hnb := lex_count a0.data.toList
    rw [← sz] at hnb
    obtain ⟨i0, hi, hz0, hz1, hz2⟩ := info_parts Try.infoTok
    go_enter Try.func3, Try.ntmps3
    go_wp2_with fail
    refine (alive_any _).mono ?_
    rintro e w1 ⟨rfl, hb1⟩
    have B1 := Lib.hid hb1
    clear hb1
    go_wp2_with fail
    refine (rlex_any _ (by omega) _).mono ?_
    rintro e w2 ⟨v2, rfl, hown2, hb2⟩
    have T2 := Lib.hid (TokV.of_own hown2)
    have B2 := Lib.hid (B1.out.trans (hb2.mono B1.out.size))
    clear hown2 hb2
    go_wp2_with fail
    refine (copy_own a0 v2 w2 T2.out (by omega)).mono ?_
    rintro e w3 ⟨v3, rfl, hown3, hb3⟩
    have T3 := Lib.hid (T2.out.below hb3)
    have B3 := Lib.hid (B2.out.trans (hb3.mono B2.out.size))
    have HB3 := Lib.hid hb3
    clear hb3
    obtain ⟨nv, A2, c2, hnv, hv2, hc2, hA2⟩ := T3.out.form
    subst hv2
    rw [← hnv] at hnb
    have HNV := Lib.hid hnv
    have hown3 := hown3.out
    rw [← hnv] at hown3
    have HO3 := Lib.hid hown3
    clear hnv hown3
    go_wp2_with (at_builtin; (refine wpList_append_own _ rfl _ _ 23 rfl w2.heap.size 27 i0 _ 3 24 Try.underlying23 hi hz0 hz1 hz2 rfl (by decide) _ _ _ rfl (HO3.out.alloc _) ⟨_, 0, none⟩ 1 1 [.int .i64 9, .int .i64 0, .int .i64 0] rfl rfl (tok_news _ _ _ _) (tok_plain _ _ _) (by unfold maxLen; omega) (by omega) (by have := HB3.out.size; simp; omega) ?_; intro v4 w4 hown4 hgrow hnil; have HQ := Lib.hid (after9 (S := a0) HB3.out HO3.out HNV.out hown4 hgrow); clear hown4 hgrow hnil; obtain ⟨g, c, rfl, hc, O4⟩ := HQ.out.1))
    have T4 := Lib.hid (T2.out.below HQ.out.2)
    have B4 := Lib.hid (B2.out.trans (HQ.out.2.mono B2.out.size))
    have hRO := Lib.hid (show Rd w4 w4.heap.size 3 (.slice (some ⟨g, 0, none⟩) nv c) nv (toksCells (Lx.lexF a0.data.toList)) from HNV.out ▸ O4.out.2.1)
    by_cases hok : (0 ≤ a1 ∧ a1 ≤ a2) ∧ a2 ≤ a0.size
    · obtain ⟨⟨ha, hb⟩, hc'⟩ := hok
      obtain ⟨fr, rfl⟩ := Int.eq_ofNat_of_zero_le ha
      obtain ⟨to, rfl⟩ := Int.eq_ofNat_of_zero_le (show 0 ≤ a2 by omega)
      have g2 : fr ≤ to := by omega
      have g3 : to ≤ a0.size := by omega
      clear ha hb hc'
      have hcl := lex_count (Lx.cutL a0.data.toList a3.data.toList fr to)
      rw [← cut_bytes, ← sz] at hcl
      have hcs := cut_bytes_size a0 a3 fr to g2 g3
      rw [cut_bytes] at hcl
      obtain ⟨us, hus⟩ : ∃ us, us = Lx.lexF (Lx.cutL a0.data.toList a3.data.toList fr to) := ⟨_, rfl⟩
      rw [← hus] at hcl
      have hub : us.length ≤ 1152921504606846976 := by omega
      have HUS := Lib.hid hus
      clear hcl hcs hus
      refine (own9_relex HNV.out O4.out (by omega) (by omega) g2 g3).mono ?_
      rintro e w5 ⟨v5, rfl, hown5, hb5⟩
      rw [← HUS.out] at hown5
      have T5 := Lib.hid (T4.out.below hb5)
      have O5 := Lib.hid (O4.out.below hb5)
      have B5 := Lib.hid (B4.out.trans (hb5.mono B4.out.size))
      have R5 := Lib.hid (Rd.of_own hown5)
      clear hown5 hb5
      obtain ⟨f, hf⟩ : ∃ f, f = frontN a0.data.toList fr := ⟨_, rfl⟩
      obtain ⟨en, hen⟩ : ∃ en, en = endN a0.data.toList a3.data.toList fr to := ⟨_, rfl⟩
      rw [← hf, ← hen]
      have HF := Lib.hid hf
      have HEN := Lib.hid hen
      clear hf hen
      go_wp2_with fail
      refine (rrelex_some a0 a3 _ fr to w5 T5.out.1 (by omega) (by omega) g2 g3).mono ?_
      rintro e w6 ⟨v6, rfl, hown6, hb6⟩
      rw [← HUS.out] at hown6
      rw [← HF.out, ← HEN.out]
      have T6 := Lib.hid (T5.out.below hb6)
      have O6 := Lib.hid (O5.out.below hb6)
      have B6 := Lib.hid (B5.out.trans (hb6.mono B5.out.size))
      have R56 := Lib.hid (R5.out.below hb6)
      have R6 := Lib.hid (Rd.of_own hown6)
      clear hown6 hb6
      go_wp2_with fail
      refine (same_self R56.out R6.out hub).mono ?_
      rintro e w7 ⟨rfl, q, rfl⟩
      have T7 := Lib.hid (T6.out.below (below_drewN (Below.refl w6.heap.size w6) q))
      have O7 := Lib.hid (O6.out.below (below_drewN (Below.refl w6.heap.size w6) q))
      have B7 := Lib.hid (below_drewN B6.out q)
      go_wp2_with fail
      refine (same_own9 HNV.out O7.out T7.out (by omega)).mono ?_
      rintro e w8 ⟨rfl, q', rfl⟩
      have O8 := Lib.hid (O7.out.below (below_drewN (Below.refl _ _) q'))
      have c9 : w6.cell? ⟨g, nv * 3, none⟩ = some (.int .i64 9) := HNV.out ▸ O6.out.2.2
      have hnn : (nv : Int) < (nv : Int) + 1 := by omega
      go_wp2
      go_ret
      exact ⟨rfl, below_drewN B6.out _⟩
    · refine (relex_bad a0 a3 _ a1 a2 _ (by omega)).mono ?_
      rintro e w5 ⟨rfl, rfl⟩
      go_wp2_with fail
      refine (rrelex_bad a0 a3 _ a1 a2 _ (by omega)).mono ?_
      rintro e w6 ⟨rfl, rfl⟩
      go_wp2_with fail
      refine (same_self (ts := []) (Rd.nil _ 0 3 none 0) (Rd.nil _ 0 3 none 0) (by simp)).mono ?_
      rintro e w7 ⟨rfl, q, rfl⟩
      have T7 := Lib.hid (T4.out.below (below_drewN (Below.refl w4.heap.size w4) q))
      have O7 := Lib.hid (O4.out.below (below_drewN (Below.refl w4.heap.size w4) q))
      have B7 := Lib.hid (below_drewN B4.out q)
      go_wp2_with fail
      refine (same_own9 HNV.out O7.out T7.out (by omega)).mono ?_
      rintro e w8 ⟨rfl, q', rfl⟩
      have O8 := Lib.hid (O7.out.below (below_drewN (Below.refl _ _) q'))
      have c9 : w4.cell? ⟨g, nv * 3, none⟩ = some (.int .i64 9) := HNV.out ▸ O4.out.2.2
      have hnn : (nv : Int) < (nv : Int) + 1 := by omega
      go_wp2
      go_ret
      exact ⟨rfl, below_drewN B4.out _⟩
  · go_enter Try.func3, Try.ntmps3
    go_wp2_with fail
    refine (alive_any _).mono ?_
    rintro e w1 ⟨rfl, hb1⟩
    go_wp2
    all_goals (go_ret; exact ⟨rfl, hb1⟩)
end Go.Proofs.Ytnmebingjpnlgaa
