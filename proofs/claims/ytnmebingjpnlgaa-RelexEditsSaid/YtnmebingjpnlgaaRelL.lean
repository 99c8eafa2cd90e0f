/- The contract of Relex where there are no tokens, and whole. -/
import Derived.Test.YtnmebingjpnlgaaRelK
namespace Go.Proofs.Ytnmebingjpnlgaa
open Go.RowKit Go.Lib
set_option maxRecDepth 100000
set_option linter.unusedVariables false
set_option linter.unusedSectionVars false

set_option maxHeartbeats 8000000 in
theorem relex_none (s more : ByteArray) (fr to : Nat) (w : World) (hn0 : Lx.lexF s.data.toList = [])
    (hs : s.size ≤ 1073741824) (hm : more.size ≤ 1073741824) (g2 : fr ≤ to) (g3 : to ≤ s.size) :
    Calls Try.prog 11 #[.string s, .slice none 0 0, .int .i64 (fr : Int), .int .i64 (to : Int), .string more] w (RelexPost s.data.toList more.data.toList fr to w) := by
  obtain ⟨L, hL⟩ : ∃ L, L = s.data.toList := ⟨_, rfl⟩
  obtain ⟨ts, hts⟩ : ∃ ts, ts = Lx.lexF L := ⟨_, rfl⟩
  rw [← hL, ← hts] at hn0
  obtain ⟨i0, hi, hz0, hz1, hz2⟩ := info_parts Try.infoTok
  have HN := Lib.hid (show 0 = ts.length from by rw [hn0]; rfl)
  have HTS := Lib.hid hts
  have HL := Lib.hid hL
  have hw1 : IntKind.i64.wrap ((to : Int) - fr) = to - fr := by rw [IntKind.wrap_i64]; omega
  have hw2 : IntKind.i64.wrap ((more.size : Int) - (to - fr)) = more.size - (to - fr) := by rw [IntKind.wrap_i64]; omega
  have hw3 : IntKind.i64.wrap ((fr : Int) - 1) = fr - 1 := by rw [IntKind.wrap_i64]; omega
  rw [← hL]
  clear hn0 hts hL
  go_enter Try.func11, Try.ntmps11
  go_wp2
  go_loopw [14, 36] (fun f i wr => i = .int .i64 0 ∧ f = .int .i64 0 ∧ wr = w) (fun _ i _ => 0)
  case atStart => exact ⟨rfl, rfl, rfl⟩
  case round =>
    obtain ⟨rfl, rfl, rfl⟩ := hrel
    have HB := Lib.hid (Below.refl wr.heap.size wr)
    have hsz : wr.heap.size ≤ wr.heap.size := Nat.le_refl _
    have hf0 : frontN L fr = 0 := by have := front_le' L fr; rw [← HTS.out, ← HN.out] at this; omega
    have HF := Lib.hid hf0.symm
    clear hf0
    have RR := Lib.hid (Rd.nil wr wr.heap.size 3 none 0)
    have hdr : ts.drop 0 = [] := List.eq_nil_of_length_eq_zero (by rw [List.length_drop, ← HN.out])
    have HDR := Lib.hid hdr
    clear hdr
    obtain ⟨st, hst⟩ : ∃ st, st = startN L fr := ⟨_, rfl⟩
    have hl := relex_list L more.data.toList fr to g2 (by rw [HL.out, ← sz]; exact g3)
    rw [← hst, ← HF.out, ← HTS.out] at hl
    obtain ⟨hst1, hlist⟩ := hl
    obtain ⟨U, hU⟩ : ∃ U, U = Lx.lexF (Lx.cutL L more.data.toList fr to) := ⟨_, rfl⟩
    rw [← hU] at hlist
    have HU := Lib.hid hU
    have HSM := Lib.hid (show Sm (ts.drop 0) from sm_drop _ (by rw [HTS.out]; exact lex_sm L (by rw [HL.out, ← sz]; omega)))
    have hUl : U.length ≤ 4294967296 := by
      have h1 := lex_count (Lx.cutL L more.data.toList fr to)
      have h2 := Lx.cut_len L more.data.toList fr to g2 (by rw [HL.out, ← sz]; exact g3)
      rw [hU]
      rw [HL.out, ← sz, ← sz] at h2
      rw [HL.out] at h1 ⊢
      omega
    clear hU
    have HLI := Lib.hid hlist
    have HST := Lib.hid hst
    clear hlist hst
    have HAG := Lib.hid (fun W (hW : wr.heap.size ≤ W.heap.size) V (hV : Rd W wr.heap.size 3 V (ts.drop 0).length (toksCells (ts.drop 0))) => again_L s more HL.out HTS.out V st fr to 0 W wr.heap.size hW hV hs hm hst1 g2 g3)
    have e0 : st = 0 := by rw [HST.out]; exact front_zero HF.out.symm
    subst e0
    have HB20 := HB
    go_wp2_with fail
    have h := HAG.out wr hsz (.slice none 0 0) (by rw [HDR.out]; exact RR.out)
    refine h.mono ?_
    rintro e wa ⟨v7, rfl, hne7, hown7, hb7⟩
    obtain ⟨g7, c7, rfl⟩ := own_form hown7 hne7
    have HO7 := Lib.hid hown7
    have HB7 := Lib.hid hb7
    clear h hown7 hb7
    have hml : (Lx.lexF (agX L more.data.toList 0 fr to)).length ≤ 4294967296 := by
      have h1 := lex_count (agX L more.data.toList 0 fr to)
      have h2 : (agX L more.data.toList 0 fr to).length ≤ 4294967296 := by rw [HL.out, ← cut_all, ← sz]; exact cut_size s more 0 fr to s.size hs hm
      omega
    obtain ⟨m, hmm⟩ : ∃ m, m = (Lx.lexF (agX L more.data.toList 0 fr to)).length := ⟨_, rfl⟩
    rw [← hmm] at HO7 hml ⊢
    have HM := Lib.hid hmm
    clear hmm
    by_cases hm0 : m = 0
    · subst hm0
      go_wp2_with (at_builtin; refine wpList_append_own _ rfl _ _ 23 rfl wr.heap.size 27 i0 _ 3 24 Try.underlying23 hi hz0 hz1 hz2 rfl (by decide) _ _ _ rfl (World.ownsRow_nil _ _ _ _) ⟨g7, 0, none⟩ _ c7 _ rfl HO7.out.1 (HO7.out.cells rfl) (toks_plain _) (by unfold maxLen; omega) (by omega) (by have := HB7.out.size; have := HB20.out.size; omega) ?_; intro v8 w8 hown8 hgrow8 hnil8; obtain rfl : v8 = .slice none 0 0 := hnil8.2 ⟨rfl, rfl⟩)
      have hU8 := own_join (st := 0) (ts := ts) (f := 0) hown8 HLI.out (by rw [← HN.out]; omega) HM.out
      try rw [Nat.zero_add] at hU8
      have HU8 := Lib.hid hU8
      clear hU8
      have HW8 := Lib.hid ((HB20.out.trans (HB7.out.mono HB20.out.size)).grown hgrow8 (by have := HB7.out.size; have := HB20.out.size; omega) (fun g e => by cases e))
      have hW8 : wr.heap.size ≤ w8.heap.size := HW8.out.size
      have HR1 := Lib.hid (RR.out.below (HB7.out.mono hsz) |>.below ((Below.refl wr.heap.size wa).grown hgrow8 (by have := HB7.out.size; omega) (fun g e => by cases e)))
      refine (kept_any (.slice none 0 0) (.slice none 0 0) (ts.drop 0) (U.drop 0) (to : Int) ((more.size : Int) - (to - fr)) w8 wr.heap.size w8.heap.size hW8 (Nat.le_refl _) (by rw [HDR.out]; exact HR1.out) (Rd.of_own HU8.out) (by rw [List.length_drop, ← HN.out]; omega) (by rw [List.length_drop]; omega) HSM.out (by omega)).mono ?_
      rintro e we ⟨rfl, hbe⟩
      have HFIN := Lib.hid (relex_fin (M := more.data.toList) (to := to) HTS.out HU.out HF.out (by rw [← sz]) HU8.out HW8.out hbe)
      clear hbe hown8 hgrow8 hnil8
      go_wp2
      ((try simp only [Exit.inBlock, Exit.then]); refine bodyPost_ret (results_tmp4 rfl _ _ _) rfl ?_)
      exact HFIN.out
    · go_wp2_with (at_builtin; refine wpList_append_own _ rfl _ _ 23 rfl wr.heap.size 27 i0 _ 3 24 Try.underlying23 hi hz0 hz1 hz2 rfl (by decide) _ _ _ rfl (World.ownsRow_nil _ _ _ _) ⟨g7, 0, none⟩ m c7 _ rfl HO7.out.1 (HO7.out.cells rfl) (toks_plain _) (by unfold maxLen; omega) (by omega) (by have := HB7.out.size; have := HB20.out.size; omega) ?_; intro v8 w8 hown8 hgrow8 hnil8; obtain ⟨g8, c8, rfl⟩ := own_form hown8 (fun e => hm0 (hnil8.1 e).2))
      have hU8 := own_join (st := 0) (ts := ts) (f := 0) hown8 HLI.out (by rw [← HN.out]; omega) HM.out
      try rw [Nat.zero_add] at hU8
      have HU8 := Lib.hid hU8
      clear hU8
      have HW8 := Lib.hid ((HB20.out.trans (HB7.out.mono HB20.out.size)).grown hgrow8 (by have := HB7.out.size; have := HB20.out.size; omega) (fun g e => by cases e))
      have hW8 : wr.heap.size ≤ w8.heap.size := HW8.out.size
      have HR1 := Lib.hid (RR.out.below (HB7.out.mono hsz) |>.below ((Below.refl wr.heap.size wa).grown hgrow8 (by have := HB7.out.size; omega) (fun g e => by cases e)))
      refine (kept_any (.slice none 0 0) (.slice (some ⟨g8, 0, none⟩) m c8) (ts.drop 0) (U.drop 0) (to : Int) ((more.size : Int) - (to - fr)) w8 wr.heap.size w8.heap.size hW8 (Nat.le_refl _) (by rw [HDR.out]; exact HR1.out) (Rd.of_own HU8.out) (by rw [List.length_drop, ← HN.out]; omega) (by rw [List.length_drop]; omega) HSM.out (by omega)).mono ?_
      rintro e we ⟨rfl, hbe⟩
      have HFIN := Lib.hid (relex_fin (M := more.data.toList) (to := to) HTS.out HU.out HF.out (by rw [← sz]) HU8.out HW8.out hbe)
      clear hbe hown8 hgrow8 hnil8
      go_wp2
      ((try simp only [Exit.inBlock, Exit.then]); refine bodyPost_ret (results_tmp4 rfl _ _ _) rfl ?_)
      exact HFIN.out
/-- Relex of a text's own tokens, as they lie in a slice of the call's own. -/
theorem relex_own (s more : ByteArray) (v1 : Value) (fr to : Nat) (w : World) (B1 : Nat) (hB : B1 ≤ w.heap.size) (h1 : Rd w B1 3 v1 (Lx.lexF s.data.toList).length (toksCells (Lx.lexF s.data.toList)))
    (hv : v1 = .slice none 0 0 ∨ ∃ g o c, v1 = .slice (some ⟨g, o, none⟩) (Lx.lexF s.data.toList).length c)
    (hs : s.size ≤ 1073741824) (hm : more.size ≤ 1073741824) (g2 : fr ≤ to) (g3 : to ≤ s.size) :
    Calls Try.prog 11 #[.string s, v1, .int .i64 (fr : Int), .int .i64 (to : Int), .string more] w (RelexPost s.data.toList more.data.toList fr to w) := by
  rcases hv with rfl | ⟨g, o, c, rfl⟩
  · obtain ⟨-, A, c', e, -, -⟩ := h1
    simp only [Value.slice.injEq] at e
    exact relex_none s more fr to w (List.eq_nil_of_length_eq_zero e.2.1.symm) hs hm g2 g3
  · exact relex_some s more fr to w B1 g o c _ rfl hB h1 hs hm g2 g3
theorem own_either {w : World} {base : Nat} {e : TypeId} {size n : Nat} {v : Value} {xs : List Value} (h : w.ownsRow base e size v n xs) : v = .slice none 0 0 ∨ ∃ g o c, v = .slice (some ⟨g, o, none⟩) n c := by
  rcases h.2 with ⟨h, _⟩ | ⟨g, cap, cur, rfl, _⟩
  · exact .inl h
  · exact .inr ⟨g, 0, cap, rfl⟩
end Go.Proofs.Ytnmebingjpnlgaa
