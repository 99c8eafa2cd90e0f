/- The contract of Relex. -/
import Derived.Test.YtnmebingjpnlgaaRelJ
namespace Go.Proofs.Ytnmebingjpnlgaa
open Go.RowKit Go.Lib
set_option maxRecDepth 100000
set_option linter.unusedVariables false
set_option linter.unusedSectionVars false

theorem results_tmp4 {fn : Func} {t u v x : Tmp} (h : fn.results = #[.tmp t, .tmp u, .tmp v, .tmp x]) (tmps : Array Value) (P : Program) (w : World) :
    (results fn tmps).run P w = .ok (.tuple #[tmps.getD t undef, tmps.getD u undef, tmps.getD v undef, tmps.getD x undef]) w := by
  simp [results, h]
theorem relex_bad (s more : ByteArray) (v1 : Value) (fr to : Int) (w : World) (hbad : fr < 0 ∨ to < fr ∨ (s.size : Int) < to) :
    Calls Try.prog 11 #[.string s, v1, .int .i64 fr, .int .i64 to, .string more] w fun e w' => e = .returned (.tuple #[.slice none 0 0, .int .i64 0, .int .i64 0, .int .i64 70]) ∧ w = w' := by
  by_cases h1 : fr < 0
  · go_enter Try.func11, Try.ntmps11
    go_wp2
    ((try simp only [Exit.inBlock, Exit.then]); refine bodyPost_ret (results_tmp4 rfl _ _ _) rfl ?_)
    exact ⟨rfl, rfl⟩
  · by_cases h2 : to < fr
    · go_enter Try.func11, Try.ntmps11
      go_wp2
      ((try simp only [Exit.inBlock, Exit.then]); refine bodyPost_ret (results_tmp4 rfl _ _ _) rfl ?_)
      exact ⟨rfl, rfl⟩
    · have h3 : (s.size : Int) < to := by omega
      go_enter Try.func11, Try.ntmps11
      go_wp2
      ((try simp only [Exit.inBlock, Exit.then]); refine bodyPost_ret (results_tmp4 rfl _ _ _) rfl ?_)
      exact ⟨rfl, rfl⟩
/-- does a token end so far ahead of a byte that it is kept? -/
def ahead (fr : Nat) (t : Lx.Tok) : Bool := decide ((t.b : Int) < (fr : Int) - 1)
theorem chain_low (l : List UInt8) : ∀ (ts : List Lx.Tok) (e : Nat), Lx.Chain l e ts → ∀ t ∈ ts, e < t.b
  | [], _, _, t, ht => by simp at ht
  | u :: ts, e, h, t, ht => by
    obtain ⟨h1, h2, _, _, h5⟩ := h
    rcases List.mem_cons.1 ht with rfl | ht
    · omega
    · have := chain_low l ts u.b h5 t ht
      omega
theorem ahead_take (l : List UInt8) (fr : Nat) : ∀ (ts : List Lx.Tok) (e : Nat), Lx.Chain l e ts → ∀ t ∈ ts.take (ts.countP (ahead fr)), ahead fr t = true
  | [], _, _, t, ht => by simp at ht
  | u :: ts, e, h, t, ht => by
    obtain ⟨h1, h2, _, _, h5⟩ := h
    rw [List.countP_cons] at ht
    cases hu : ahead fr u
    · have h0 : ts.countP (ahead fr) = 0 := by
        rw [List.countP_eq_zero]
        intro x hx
        have := chain_low l ts u.b h5 x hx
        simp only [ahead, decide_eq_true_eq, decide_eq_false_iff_not] at hu ⊢
        omega
      rw [hu, h0] at ht
      simp at ht
    · rw [hu] at ht
      simp only [if_true, List.take_succ_cons, List.mem_cons] at ht
      rcases ht with rfl | ht
      · exact hu
      · exact ahead_take l fr ts u.b h5 t ht
/-- how many tokens are kept at the front. -/
def frontN (L : List UInt8) (fr : Nat) : Nat := (Lx.lexF L).countP (ahead fr)
theorem front_le' (L : List UInt8) (fr : Nat) : frontN L fr ≤ (Lx.lexF L).length := List.countP_le_length
/-- where the reading begins. -/
def startN (L : List UInt8) (fr : Nat) : Nat := match (Lx.lexF L)[frontN L fr - 1]? with | some t => if frontN L fr = 0 then 0 else t.b | none => 0
theorem relex_list (L M : List UInt8) (fr to : Nat) (h1 : fr ≤ to) (h2 : to ≤ L.length) : startN L fr ≤ fr ∧
    Lx.lexF (Lx.cutL L M fr to) = (Lx.lexF L).take (frontN L fr) ++ (Lx.lexF (agX L M (startN L fr) fr to)).map (Lx.shiftT (startN L fr)) := by
  obtain ⟨r, hr, e1, e2, e3⟩ := Lx.cut_front L M fr to h1 h2 (frontN L fr) (front_le' L fr) (fun t ht => by
    have := ahead_take L fr _ 0 (Lx.lex_chain L) t ht
    simp only [ahead, decide_eq_true_eq] at this
    omega)
  have hs : startN L fr = r := by
    unfold startN
    rcases Nat.eq_zero_or_pos (frontN L fr) with h0 | h0
    · rw [e1 h0]
      split
      · rw [if_pos h0]
      · rfl
    · have hl := front_le' L fr
      have hg : (Lx.lexF L)[frontN L fr - 1]? = some ((Lx.lexF L)[frontN L fr - 1]'(by omega)) := List.getElem?_eq_getElem (by omega)
      rw [hg]
      simp only
      rw [if_neg (by omega)]
      exact (e2 _ h0 hg).symm
  rw [hs]
  exact ⟨hr, e3⟩
theorem front_last {L : List UInt8} {fr : Nat} (h : 0 < frontN L fr) : ∃ t, (Lx.lexF L)[frontN L fr - 1]? = some t ∧ startN L fr = t.b := by
  have hl := front_le' L fr
  have hg : (Lx.lexF L)[frontN L fr - 1]? = some ((Lx.lexF L)[frontN L fr - 1]'(by omega)) := List.getElem?_eq_getElem (by omega)
  refine ⟨_, hg, ?_⟩
  unfold startN
  rw [hg]
  simp only
  rw [if_neg (by omega)]
theorem front_zero {L : List UInt8} {fr : Nat} (h : frontN L fr = 0) : startN L fr = 0 := by
  unfold startN
  split
  · rw [if_pos h]
  · rfl
theorem count_step {p : Lx.Tok → Bool} {ts : List Lx.Tok} {k : Nat} {t : Lx.Tok} (h : ts[k]? = some t) : (ts.take (k + 1)).countP p = (ts.take k).countP p + if p t then 1 else 0 := by
  rw [List.take_add_one, h, List.countP_append]
  simp [List.countP_cons]
/-- how many tokens are kept at the end. -/
def endN (L M : List UInt8) (fr to : Nat) : Nat := keptR ((M.length : Int) - (to - fr)) to ((Lx.lexF L).drop (frontN L fr)).reverse ((Lx.lexF (Lx.cutL L M fr to)).drop (frontN L fr)).reverse
/-- what Relex answers. -/
def RelexPost (L M : List UInt8) (fr to : Nat) (w : World) (e : Ending) (w' : World) : Prop :=
  ∃ v, e = .returned (.tuple #[v, .int .i64 (frontN L fr : Nat), .int .i64 (endN L M fr to : Nat), .int .i64 0]) ∧ w'.ownsRow w.heap.size 27 3 v (Lx.lexF (Lx.cutL L M fr to)).length (toksCells (Lx.lexF (Lx.cutL L M fr to))) ∧ Below w.heap.size w w'
theorem toks_take (ts : List Lx.Tok) (f : Nat) : toksCells (ts.take f) = (toksCells ts).take (f * 3) := by
  rcases Nat.le_total f ts.length with h | h
  · have e : toksCells ts = toksCells (ts.take f) ++ toksCells (ts.drop f) := by
      conv => lhs; rw [← List.take_append_drop f ts]
      unfold toksCells
      rw [List.flatMap_append]
    rw [e, List.take_left' (by rw [toksCells_len, List.length_take]; omega)]
  · rw [List.take_of_length_le h, List.take_of_length_le (by rw [toksCells_len]; omega)]
theorem toks_plain (ts : List Lx.Tok) : ∀ u ∈ toksCells ts, u.oneCell' = true := by
  intro u hu
  simp only [toksCells, List.mem_flatMap, tokCells, List.mem_cons, List.mem_nil_iff, or_false] at hu
  obtain ⟨t, _, rfl | rfl | rfl⟩ := hu <;> rfl
theorem rd_news {w : World} {B g o n c : Nat} {ts : List Lx.Tok} {f : Nat} (h : Rd w B 3 (.slice (some ⟨g, o, none⟩) n c) n (toksCells ts)) (hf : f ≤ n) (h0 : 0 < n) :
    ∀ j u, (toksCells (ts.take f))[j]? = some u → w.cell? ((⟨g, o, none⟩ : Addr).add j) = some u := by
  intro j u hj
  obtain ⟨hl, A, c', e, hc, h⟩ := h
  simp only [Value.slice.injEq, true_and] at e
  obtain ⟨rfl, rfl⟩ := e
  obtain ⟨g', o', e, hg, hr⟩ := h h0
  simp only [Option.some.injEq, Addr.mk.injEq, and_true] at e
  obtain ⟨rfl, rfl⟩ := e
  rw [toks_take, List.getElem?_take] at hj
  split at hj
  · have hjl : j < (toksCells ts).length := by
      rcases Nat.lt_or_ge j (toksCells ts).length with h | h
      · exact h
      · rw [List.getElem?_eq_none h] at hj; simp at hj
    have e : (⟨g, o, none⟩ : Addr).add j = ⟨g, o + j, none⟩ := by simp [Addr.add]
    rw [e, hr j (by omega)]
    exact hj
  · simp at hj
theorem rd_zero {w : World} {B n : Nat} {A : Option Addr} {c : Nat} {ts : List Lx.Tok} {f : Nat} (hn : n = ts.length) (hf : f = n) : Rd w B 3 (.slice A (n - f) c) (ts.drop f).length (toksCells (ts.drop f)) := by
  subst hf
  have e : ts.drop f = [] := List.drop_of_length_le (by omega)
  rw [e, Nat.sub_self]
  exact Rd.nil _ _ _ _ _
theorem rd_none {w : World} {B n : Nat} {A : Option Addr} {c : Nat} {ts : List Lx.Tok} {f : Nat} (hn : n = ts.length) (hf : f = n) : Rd w B 3 (.slice A 0 c) (ts.drop f).length (toksCells (ts.drop f)) := by
  subst hf
  have e : ts.drop f = [] := List.drop_of_length_le (by omega)
  rw [e]
  exact Rd.nil _ _ _ _ _
theorem rd_back {w : World} {B g o n c : Nat} {ts : List Lx.Tok} {f : Nat} (h : Rd w B 3 (.slice (some ⟨g, o, none⟩) n c) n (toksCells ts)) (hn : n = ts.length) (hf : f ≤ n) :
    Rd w B 3 (.slice (some ⟨g, o + f * 3, none⟩) (n - f) (c - f)) (ts.drop f).length (toksCells (ts.drop f)) := by
  rcases Nat.lt_or_ge f n with h' | h'
  · exact rd_drop h hn h'
  · exact rd_zero hn (by omega)
theorem own_cap {w : World} {base : Nat} {e : TypeId} {size n g c : Nat} {xs : List Value} (h : w.ownsRow base e size (.slice (some ⟨g, 0, none⟩) n c) n xs) : n ≤ c := by
  rcases h.2 with ⟨h, _⟩ | ⟨g', cap, cur, e, _, _, hc, _⟩
  · cases h
  · simp only [Value.slice.injEq] at e
    omega
theorem again_L (s more : ByteArray) {L : List UInt8} {ts : List Lx.Tok} (hL : L = s.data.toList) (hts : ts = Lx.lexF L) (v1 : Value) (st fr to k0 : Nat) (w : World) (B1 : Nat) (hB : B1 ≤ w.heap.size) (h1 : Rd w B1 3 v1 (ts.drop k0).length (toksCells (ts.drop k0)))
    (hs : s.size ≤ 1073741824) (hm : more.size ≤ 1073741824) (g1 : st ≤ fr) (g2 : fr ≤ to) (g3 : to ≤ s.size) :
    Calls Try.prog 23 #[.string s, v1, .int .i64 (st : Int), .int .i64 (fr : Int), .int .i64 (to : Int), .string more] w (AgPost L more.data.toList st fr to w) := by
  subst hts hL
  exact again_any s more v1 st fr to k0 w B1 hB h1 hs hm g1 g2 g3
theorem rd_ans {w : World} {B g8 f m c8 : Nat} {U : List Lx.Tok} (h : Rd w B 3 (.slice (some ⟨g8, 0, none⟩) (f + m) c8) U.length (toksCells U)) :
    Rd w B 3 (.slice (some ⟨g8, f * 3, none⟩) m (c8 - f)) (U.drop f).length (toksCells (U.drop f)) ∧ (c8 ≤ f → ∀ A c, Rd w B 3 (.slice A m c) (U.drop f).length (toksCells (U.drop f))) := by
  obtain ⟨-, A, c', e, hc, -⟩ := id h
  simp only [Value.slice.injEq] at e
  obtain ⟨-, hU, rfl⟩ := e
  rw [← hU] at h hc
  have h' := rd_back h hU (f := f) (by omega)
  rw [Nat.zero_add, Nat.add_sub_cancel_left] at h'
  refine ⟨h', fun hcf A c => ?_⟩
  have hm : m = 0 := by omega
  subst hm
  have e : U.drop f = [] := List.drop_of_length_le (by omega)
  rw [e]
  exact Rd.nil _ _ _ _ _
theorem own_join {w : World} {base : Nat} {e : TypeId} {v : Value} {f m : Nat} {ts X U : List Lx.Tok} {st : Nat} (h : w.ownsRow base e 3 v (f + m) (toksCells (ts.take f) ++ toksCells (X.map (Lx.shiftT st)))) (hU : U = ts.take f ++ X.map (Lx.shiftT st)) (hf : f ≤ ts.length) (hm : m = X.length) :
    w.ownsRow base e 3 v U.length (toksCells U) := by
  have e1 : U.length = f + m := by rw [hU, List.length_append, List.length_take, List.length_map]; omega
  have e2 : toksCells U = toksCells (ts.take f) ++ toksCells (X.map (Lx.shiftT st)) := by rw [hU]; unfold toksCells; rw [List.flatMap_append]
  rw [e1, e2]
  exact h
theorem relex_fin {L M : List UInt8} {fr to f : Nat} {ts U : List Lx.Tok} {w w8 we : World} {v : Value} {by_ : Int} (hts : ts = Lx.lexF L) (hU : U = Lx.lexF (Lx.cutL L M fr to)) (hf : f = frontN L fr) (hby : by_ = (M.length : Int) - (to - fr))
    (h : w8.ownsRow w.heap.size 27 3 v U.length (toksCells U)) (hb : Below w.heap.size w w8) (hb2 : Below w8.heap.size w8 we) :
    RelexPost L M fr to w (.returned (.tuple #[v, .int .i64 (f : Int), .int .i64 ((keptR by_ to (ts.drop f).reverse (U.drop f).reverse : Nat) : Int), .int .i64 0])) we := by
  subst hts hU hf hby
  exact ⟨v, rfl, own_below h hb2, hb.trans (hb2.mono hb.size)⟩
set_option maxHeartbeats 8000000 in
theorem relex_some (s more : ByteArray) (fr to : Nat) (w : World) (B1 g o c : Nat) (n : Nat) (hn : n = (Lx.lexF s.data.toList).length) (hB : B1 ≤ w.heap.size) (h1 : Rd w B1 3 (.slice (some ⟨g, o, none⟩) n c) n (toksCells (Lx.lexF s.data.toList)))
    (hs : s.size ≤ 1073741824) (hm : more.size ≤ 1073741824) (g2 : fr ≤ to) (g3 : to ≤ s.size) :
    Calls Try.prog 11 #[.string s, .slice (some ⟨g, o, none⟩) n c, .int .i64 (fr : Int), .int .i64 (to : Int), .string more] w (RelexPost s.data.toList more.data.toList fr to w) := by
  obtain ⟨L, hL⟩ : ∃ L, L = s.data.toList := ⟨_, rfl⟩
  obtain ⟨ts, hts⟩ : ∃ ts, ts = Lx.lexF L := ⟨_, rfl⟩
  rw [← hL, ← hts] at hn h1
  obtain ⟨i0, hi, hz0, hz1, hz2⟩ := info_parts Try.infoTok
  have hlen : n ≤ s.size := by
    have := lex_count L
    rw [hn, hts, sz, ← hL]; omega
  have HRD := Lib.hid h1
  have HN := Lib.hid hn
  have HTS := Lib.hid hts
  have HL := Lib.hid hL
  have hcc : n ≤ c := by
    obtain ⟨-, A, c', e, hc, -⟩ := h1
    simp only [Value.slice.injEq] at e
    omega
  have hw1 : IntKind.i64.wrap ((to : Int) - fr) = to - fr := by rw [IntKind.wrap_i64]; omega
  have hw2 : IntKind.i64.wrap ((more.size : Int) - (to - fr)) = more.size - (to - fr) := by rw [IntKind.wrap_i64]; omega
  have hw3 : IntKind.i64.wrap ((fr : Int) - 1) = fr - 1 := by rw [IntKind.wrap_i64]; omega
  rw [← hL]
  clear h1 hn hts hL
  go_enter Try.func11, Try.ntmps11
  go_wp2
  go_loopw [14, 36] (fun f i wr => ∃ k : Nat, k ≤ n ∧ i = .int .i64 k ∧ f = .int .i64 ((ts.take k).countP (ahead fr) : Nat) ∧ Below w.heap.size w wr) (fun _ i _ => n - (intOf i).toNat)
  case atStart => exact ⟨0, by omega, rfl, rfl, Below.refl _ _⟩
  case round =>
    obtain ⟨k, hk, rfl, rfl, hb⟩ := hrel
    have HB := Lib.hid hb
    have hsz : w.heap.size ≤ wr.heap.size := hb.size
    clear hb
    by_cases hlt : k < n
    · obtain ⟨-, A, c', e, -, hr⟩ := HRD.out
      simp only [Value.slice.injEq, true_and] at e
      obtain ⟨rfl, rfl⟩ := e
      obtain ⟨g', o', e, hg, hr⟩ := hr (by omega)
      simp only [Option.some.injEq, Addr.mk.injEq, and_true] at e
      obtain ⟨rfl, rfl⟩ := e
      obtain ⟨t, ht, d0, d1, d2⟩ := rd_tok hr HN.out hlt
      have c0 := (HB.out.cell (p := ⟨g, o + k * 3, none⟩) (by show g < _; omega)).trans d0
      have c1' := (HB.out.cell (p := ⟨g, o + k * 3 + 1, none⟩) (by show g < _; omega)).trans d1
      have c2' := (HB.out.cell (p := ⟨g, o + k * 3 + 2, none⟩) (by show g < _; omega)).trans d2
      have HS := Lib.hid (count_step (p := ahead fr) ht)
      have hkn : (k : Int) < n := by omega
      have hcl : (ts.take k).countP (ahead fr) ≤ k := Nat.le_trans List.countP_le_length (by rw [List.length_take]; omega)
      clear hr ht d0 d1 d2
      by_cases h3 : (t.b : Int) < (fr : Int) - 1
      · have HA := Lib.hid (show ahead fr t = true from by simpa [ahead] using h3)
        go_wp2
        go_roundw
        case rel =>
          refine ⟨k + 1, by omega, by go_num, ?_, HB.out.alloc hsz _⟩
          rw [HS.out, HA.out]
          rfl
        case measure => simp [intOf]; omega
      · have HA := Lib.hid (show ahead fr t = false from by simpa [ahead] using h3)
        go_wp2
        go_roundw
        case rel =>
          refine ⟨k + 1, by omega, by go_num, ?_, HB.out.alloc hsz _⟩
          rw [HS.out, HA.out]
          rfl
        case measure => simp [intOf]; omega
    · have e : k = n := by omega
      have hfr : (ts.take k).countP (ahead fr) = frontN L fr := by rw [e, HN.out, List.take_length, HTS.out]; rfl
      rw [hfr]
      have hfl : frontN L fr ≤ n := by have := front_le' L fr; rw [← HTS.out, ← HN.out] at this; exact this
      obtain ⟨f, hf⟩ : ∃ f, f = frontN L fr := ⟨_, rfl⟩
      rw [← hf] at hfl ⊢
      have HF := Lib.hid hf
      clear hf hfr
      have RR := Lib.hid ((HRD.out.more hB).below HB.out)
      obtain ⟨st, hst⟩ : ∃ st, st = startN L fr := ⟨_, rfl⟩
      have hl := relex_list L more.data.toList fr to g2 (by rw [HL.out, ← sz]; exact g3)
      rw [← hst, ← HF.out, ← HTS.out] at hl
      obtain ⟨hst1, hlist⟩ := hl
      obtain ⟨U, hU⟩ : ∃ U, U = Lx.lexF (Lx.cutL L more.data.toList fr to) := ⟨_, rfl⟩
      rw [← hU] at hlist
      have HU := Lib.hid hU
      have HSM := Lib.hid (show Sm (ts.drop f) from sm_drop _ (by rw [HTS.out]; exact lex_sm L (by rw [HL.out, ← sz]; omega)))
      have hUl : U.length ≤ 4294967296 := by
        have h1 := lex_count (Lx.cutL L more.data.toList fr to)
        have h2 := Lx.cut_len L more.data.toList fr to g2 (by rw [HL.out, ← sz]; exact g3)
        rw [hU]
        rw [HL.out, ← sz, ← sz] at h2
        rw [HL.out] at h1 ⊢
        omega
      clear hU
      have HLI := Lib.hid hlist
      have HST := Lib.hid hst
      clear hlist hst
      have HAG := Lib.hid (fun W (hW : w.heap.size ≤ W.heap.size) V (hV : Rd W w.heap.size 3 V (ts.drop f).length (toksCells (ts.drop f))) => again_L s more HL.out HTS.out V st fr to f W w.heap.size hW hV hs hm hst1 g2 g3)
      by_cases h0 : f = 0
      · subst h0
        have e0 : st = 0 := by rw [HST.out]; exact front_zero HF.out.symm
        subst e0
        have HB20 := HB
        go_wp2_with fail
        have h := HAG.out wr hsz (.slice (some ⟨g, o, none⟩) n c) (by have h := RR.out; rw [HN.out] at h; rw [HN.out]; exact h)
        refine h.mono ?_
        rintro e wa ⟨v7, rfl, hne7, hown7, hb7⟩
        obtain ⟨g7, c7, rfl⟩ := own_form hown7 hne7
        have HO7 := Lib.hid hown7
        have HB7 := Lib.hid hb7
        clear h hown7 hb7
        have hml : (Lx.lexF (agX L more.data.toList 0 fr to)).length ≤ 4294967296 := by
          have h1 := lex_count (agX L more.data.toList 0 fr to)
          have h2 : (agX L more.data.toList 0 fr to).length ≤ 4294967296 := by rw [HL.out, ← cut_all, ← sz]; exact cut_size s more 0 fr to s.size hs hm
          omega
        obtain ⟨m, hmm⟩ : ∃ m, m = (Lx.lexF (agX L more.data.toList 0 fr to)).length := ⟨_, rfl⟩
        rw [← hmm] at HO7 hml ⊢
        have HM := Lib.hid hmm
        clear hmm
        by_cases hm0 : m = 0
        · subst hm0
          go_wp2_with (at_builtin; refine wpList_append_own _ rfl _ _ 23 rfl w.heap.size 27 i0 _ 3 24 Try.underlying23 hi hz0 hz1 hz2 rfl (by decide) _ _ _ rfl (World.ownsRow_nil _ _ _ _) ⟨g7, 0, none⟩ _ c7 _ rfl HO7.out.1 (HO7.out.cells rfl) (toks_plain _) (by unfold maxLen; omega) (by omega) (by have := HB7.out.size; have := HB20.out.size; omega) ?_; intro v8 w8 hown8 hgrow8 hnil8; obtain rfl : v8 = .slice none 0 0 := hnil8.2 ⟨rfl, rfl⟩)
          have hU8 := own_join (st := 0) (ts := ts) (f := 0) hown8 HLI.out (by rw [← HN.out]; omega) HM.out
          try rw [Nat.zero_add] at hU8
          have HU8 := Lib.hid hU8
          clear hU8
          have HW8 := Lib.hid ((HB20.out.trans (HB7.out.mono HB20.out.size)).grown hgrow8 (by have := HB7.out.size; have := HB20.out.size; omega) (fun g e => by cases e))
          have hW8 : w.heap.size ≤ w8.heap.size := HW8.out.size
          have HR1 := Lib.hid (RR.out.below (HB7.out.mono hsz) |>.below ((Below.refl w.heap.size wa).grown hgrow8 (by have := HB7.out.size; omega) (fun g e => by cases e)))
          refine (kept_any (.slice (some ⟨g, o, none⟩) n c) (.slice none 0 0) (ts.drop 0) (U.drop 0) (to : Int) ((more.size : Int) - (to - fr)) w8 w.heap.size w8.heap.size hW8 (Nat.le_refl _) (by have h := HR1.out; rw [HN.out] at h; rw [HN.out]; exact h) (Rd.of_own HU8.out) (by rw [List.length_drop, ← HN.out]; omega) (by rw [List.length_drop]; omega) HSM.out (by omega)).mono ?_
          rintro e we ⟨rfl, hbe⟩
          have HFIN := Lib.hid (relex_fin (M := more.data.toList) (to := to) HTS.out HU.out HF.out (by rw [← sz]) HU8.out HW8.out hbe)
          clear hbe hown8 hgrow8 hnil8
          go_wp2
          ((try simp only [Exit.inBlock, Exit.then]); refine bodyPost_ret (results_tmp4 rfl _ _ _) rfl ?_)
          exact HFIN.out
        · go_wp2_with (at_builtin; refine wpList_append_own _ rfl _ _ 23 rfl w.heap.size 27 i0 _ 3 24 Try.underlying23 hi hz0 hz1 hz2 rfl (by decide) _ _ _ rfl (World.ownsRow_nil _ _ _ _) ⟨g7, 0, none⟩ m c7 _ rfl HO7.out.1 (HO7.out.cells rfl) (toks_plain _) (by unfold maxLen; omega) (by omega) (by have := HB7.out.size; have := HB20.out.size; omega) ?_; intro v8 w8 hown8 hgrow8 hnil8; obtain ⟨g8, c8, rfl⟩ := own_form hown8 (fun e => hm0 (hnil8.1 e).2))
          have hU8 := own_join (st := 0) (ts := ts) (f := 0) hown8 HLI.out (by rw [← HN.out]; omega) HM.out
          try rw [Nat.zero_add] at hU8
          have HU8 := Lib.hid hU8
          clear hU8
          have HW8 := Lib.hid ((HB20.out.trans (HB7.out.mono HB20.out.size)).grown hgrow8 (by have := HB7.out.size; have := HB20.out.size; omega) (fun g e => by cases e))
          have hW8 : w.heap.size ≤ w8.heap.size := HW8.out.size
          have HR1 := Lib.hid (RR.out.below (HB7.out.mono hsz) |>.below ((Below.refl w.heap.size wa).grown hgrow8 (by have := HB7.out.size; omega) (fun g e => by cases e)))
          refine (kept_any (.slice (some ⟨g, o, none⟩) n c) (.slice (some ⟨g8, 0, none⟩) m c8) (ts.drop 0) (U.drop 0) (to : Int) ((more.size : Int) - (to - fr)) w8 w.heap.size w8.heap.size hW8 (Nat.le_refl _) (by have h := HR1.out; rw [HN.out] at h; rw [HN.out]; exact h) (Rd.of_own HU8.out) (by rw [List.length_drop, ← HN.out]; omega) (by rw [List.length_drop]; omega) HSM.out (by omega)).mono ?_
          rintro e we ⟨rfl, hbe⟩
          have HFIN := Lib.hid (relex_fin (M := more.data.toList) (to := to) HTS.out HU.out HF.out (by rw [← sz]) HU8.out HW8.out hbe)
          clear hbe hown8 hgrow8 hnil8
          go_wp2
          ((try simp only [Exit.inBlock, Exit.then]); refine bodyPost_ret (results_tmp4 rfl _ _ _) rfl ?_)
          exact HFIN.out
      · have h0' : (0 : Int) < f := by omega
        obtain ⟨tl, htl, hsl⟩ := front_last (L := L) (fr := fr) (by rw [← HF.out]; omega)
        rw [← HF.out, ← HTS.out] at htl
        have hi1 : (0 : Int) ≤ (f : Int) - 1 := by omega
        have hi2 : (f : Int) - 1 < n := by omega
        have hi3 : ((f : Int) - 1).toNat = f - 1 := by omega
        obtain ⟨-, A, c', e, -, hr⟩ := RR.out
        simp only [Value.slice.injEq, true_and] at e
        obtain ⟨rfl, rfl⟩ := e
        obtain ⟨g', o', e, hg, hr⟩ := hr (by omega)
        simp only [Option.some.injEq, Addr.mk.injEq, and_true] at e
        obtain ⟨rfl, rfl⟩ := e
        obtain ⟨t, ht, d0, d1, d2⟩ := rd_tok hr HN.out (k := f - 1) (by omega)
        obtain rfl : tl = t := by rw [htl] at ht; simpa using ht
        have hsb : st = tl.b := by rw [HST.out]; exact hsl
        have hb1 : ¬ ((tl.b : Int) < 0) := by omega
        have hb2 : ¬ ((fr : Int) < tl.b) := by omega
        have hnews := rd_news RR.out hfl (by omega)
        have HNW := Lib.hid hnews
        have hnl : (toksCells (ts.take f)).length = f * 3 := by rw [toksCells_len, List.length_take, Nat.min_eq_left (by rw [← HN.out]; exact hfl)]
        have HNL := Lib.hid hnl
        subst hsb
        clear hr ht d0 d1 htl hsl hnews hnl
        by_cases hcf : c = f
        · have HFN := Lib.hid (show f = n from by omega)
          have hcf' := hcf.symm
          clear hcf
          subst hcf'
          go_wp2_with (at_builtin; refine wpList_append_own _ rfl _ _ 23 rfl w.heap.size 27 i0 _ 3 24 Try.underlying23 hi hz0 hz1 hz2 rfl (by decide) _ _ _ rfl (World.ownsRow_nil _ _ _ _) ⟨g, o, none⟩ f _ _ rfl HNL.out HNW.out (toks_plain _) (by unfold maxLen; omega) (by omega) hsz ?_; intro v20 w20 hown20 hgrow20 hnil20; have HO20 := Lib.hid hown20; have HG20 := Lib.hid hgrow20; have hne20 : v20 ≠ .slice none 0 0 := fun e => by have := (hnil20.1 e).2; omega)
          have HB20 := Lib.hid (HB.out.grown HG20.out hsz (fun g e => by cases e))
          have hs20 : w.heap.size ≤ w20.heap.size := HB20.out.size
          have hr20 := RR.out.below ((Below.refl w.heap.size wr).grown HG20.out hsz (fun g e => by cases e))
          have HR20 := Lib.hid hr20
          clear hown20 hgrow20 hnil20 hr20
          refine (HAG.out w20 hs20 _ (rd_none HN.out HFN.out)).mono ?_
          rintro e wa ⟨v7, rfl, hne7, hown7, hb7⟩
          obtain ⟨g7, c7, rfl⟩ := own_form hown7 hne7
          have HO7 := Lib.hid hown7
          have HB7 := Lib.hid hb7
          have HK20 := Lib.hid (own_below HO20.out hb7)
          clear hown7 hb7
          have hml : (Lx.lexF (agX L more.data.toList tl.b fr to)).length ≤ 4294967296 := by
            have h1 := lex_count (agX L more.data.toList tl.b fr to)
            have h2 : (agX L more.data.toList tl.b fr to).length ≤ 4294967296 := by rw [HL.out, ← cut_all, ← sz]; exact cut_size s more tl.b fr to s.size hs hm
            omega
          obtain ⟨m, hmm⟩ : ∃ m, m = (Lx.lexF (agX L more.data.toList tl.b fr to)).length := ⟨_, rfl⟩
          rw [← hmm] at HO7 hml ⊢
          have HM := Lib.hid hmm
          clear hmm
          go_wp2_with (at_builtin; refine wpList_append_own _ rfl _ _ 23 rfl w.heap.size 27 i0 _ 3 24 Try.underlying23 hi hz0 hz1 hz2 rfl (by decide) _ _ _ rfl HK20.out ⟨g7, 0, none⟩ m c7 _ rfl HO7.out.1 (HO7.out.cells rfl) (toks_plain _) (by unfold maxLen; omega) (by omega) (by have := HB7.out.size; omega) ?_; intro v8 w8 hown8 hgrow8 hnil8; obtain ⟨g8, c8, rfl⟩ := own_form hown8 (fun e => hne20 (hnil8.1 e).1); have hcap : f + m ≤ c8 := (by have h := own_cap hown8; omega); have HO8 := Lib.hid hown8; have HG8 := Lib.hid hgrow8; clear hown8 hgrow8)
          all_goals
            have h8 := HO8.out
            rw [Nat.zero_add] at h8
            have HU8 := Lib.hid (own_join (st := tl.b) (ts := ts) h8 HLI.out (by rw [← HN.out]; omega) HM.out)
            have HW8 := Lib.hid ((HB20.out.trans (HB7.out.mono hs20)).grown HG8.out (by have := HB7.out.size; omega) (fun g e => (HK20.out.lt g e).1))
            have hW8 : w.heap.size ≤ w8.heap.size := HW8.out.size
            have HR8 := Lib.hid (HR20.out.below (HB7.out.mono hs20) |>.below ((Below.refl w.heap.size wa).grown HG8.out (by have := HB7.out.size; omega) (fun g e => (HK20.out.lt g e).1)))
            have hra := rd_ans (Rd.of_own HU8.out)
            clear h8
            refine (kept_any _ _ (ts.drop f) (U.drop f) (to : Int) ((more.size : Int) - (to - fr)) w8 w.heap.size w8.heap.size hW8 (Nat.le_refl _) (rd_none HN.out HFN.out) (by first | exact hra.1 | exact hra.2 (by omega) _ _) (by rw [List.length_drop, ← HN.out]; omega) (by rw [List.length_drop]; omega) HSM.out (by omega)).mono ?_
            rintro e we ⟨rfl, hbe⟩
            have HFIN := Lib.hid (relex_fin (M := more.data.toList) (to := to) HTS.out HU.out HF.out (by rw [← sz]) HU8.out HW8.out hbe)
            clear hbe hnil8 hra
            go_wp2
            ((try simp only [Exit.inBlock, Exit.then]); refine bodyPost_ret (results_tmp4 rfl _ _ _) rfl ?_)
            first | (have hc8 : c8 = f := (by omega); have h := HFIN.out; rw [hc8] at h; exact h) | exact HFIN.out
        · go_wp2_with (at_builtin; refine wpList_append_own _ rfl _ _ 23 rfl w.heap.size 27 i0 _ 3 24 Try.underlying23 hi hz0 hz1 hz2 rfl (by decide) _ _ _ rfl (World.ownsRow_nil _ _ _ _) ⟨g, o, none⟩ f _ _ rfl HNL.out HNW.out (toks_plain _) (by unfold maxLen; omega) (by omega) hsz ?_; intro v20 w20 hown20 hgrow20 hnil20; have HO20 := Lib.hid hown20; have HG20 := Lib.hid hgrow20; have hne20 : v20 ≠ .slice none 0 0 := fun e => by have := (hnil20.1 e).2; omega)
          have HB20 := Lib.hid (HB.out.grown HG20.out hsz (fun g e => by cases e))
          have hs20 : w.heap.size ≤ w20.heap.size := HB20.out.size
          have hr20 := RR.out.below ((Below.refl w.heap.size wr).grown HG20.out hsz (fun g e => by cases e))
          have HR20 := Lib.hid hr20
          clear hown20 hgrow20 hnil20 hr20
          refine (HAG.out w20 hs20 _ (rd_back HR20.out HN.out hfl)).mono ?_
          rintro e wa ⟨v7, rfl, hne7, hown7, hb7⟩
          obtain ⟨g7, c7, rfl⟩ := own_form hown7 hne7
          have HO7 := Lib.hid hown7
          have HB7 := Lib.hid hb7
          have HK20 := Lib.hid (own_below HO20.out hb7)
          clear hown7 hb7
          have hml : (Lx.lexF (agX L more.data.toList tl.b fr to)).length ≤ 4294967296 := by
            have h1 := lex_count (agX L more.data.toList tl.b fr to)
            have h2 : (agX L more.data.toList tl.b fr to).length ≤ 4294967296 := by rw [HL.out, ← cut_all, ← sz]; exact cut_size s more tl.b fr to s.size hs hm
            omega
          obtain ⟨m, hmm⟩ : ∃ m, m = (Lx.lexF (agX L more.data.toList tl.b fr to)).length := ⟨_, rfl⟩
          rw [← hmm] at HO7 hml ⊢
          have HM := Lib.hid hmm
          clear hmm
          go_wp2_with (at_builtin; refine wpList_append_own _ rfl _ _ 23 rfl w.heap.size 27 i0 _ 3 24 Try.underlying23 hi hz0 hz1 hz2 rfl (by decide) _ _ _ rfl HK20.out ⟨g7, 0, none⟩ m c7 _ rfl HO7.out.1 (HO7.out.cells rfl) (toks_plain _) (by unfold maxLen; omega) (by omega) (by have := HB7.out.size; omega) ?_; intro v8 w8 hown8 hgrow8 hnil8; obtain ⟨g8, c8, rfl⟩ := own_form hown8 (fun e => hne20 (hnil8.1 e).1); have hcap : f + m ≤ c8 := (by have h := own_cap hown8; omega); have HO8 := Lib.hid hown8; have HG8 := Lib.hid hgrow8; clear hown8 hgrow8)
          all_goals
            have h8 := HO8.out
            rw [Nat.zero_add] at h8
            have HU8 := Lib.hid (own_join (st := tl.b) (ts := ts) h8 HLI.out (by rw [← HN.out]; omega) HM.out)
            have HW8 := Lib.hid ((HB20.out.trans (HB7.out.mono hs20)).grown HG8.out (by have := HB7.out.size; omega) (fun g e => (HK20.out.lt g e).1))
            have hW8 : w.heap.size ≤ w8.heap.size := HW8.out.size
            have HR8 := Lib.hid (HR20.out.below (HB7.out.mono hs20) |>.below ((Below.refl w.heap.size wa).grown HG8.out (by have := HB7.out.size; omega) (fun g e => (HK20.out.lt g e).1)))
            have hra := rd_ans (Rd.of_own HU8.out)
            clear h8
            refine (kept_any _ _ (ts.drop f) (U.drop f) (to : Int) ((more.size : Int) - (to - fr)) w8 w.heap.size w8.heap.size hW8 (Nat.le_refl _) (rd_back HR8.out HN.out hfl) (by first | exact hra.1 | exact hra.2 (by omega) _ _) (by rw [List.length_drop, ← HN.out]; omega) (by rw [List.length_drop]; omega) HSM.out (by omega)).mono ?_
            rintro e we ⟨rfl, hbe⟩
            have HFIN := Lib.hid (relex_fin (M := more.data.toList) (to := to) HTS.out HU.out HF.out (by rw [← sz]) HU8.out HW8.out hbe)
            clear hbe hnil8 hra
            go_wp2
            ((try simp only [Exit.inBlock, Exit.then]); refine bodyPost_ret (results_tmp4 rfl _ _ _) rfl ?_)
            first | (have hc8 : c8 = f := (by omega); have h := HFIN.out; rw [hc8] at h; exact h) | exact HFIN.out
/-- Relex of a text's own tokens. -/
theorem relex_any (s more : ByteArray) (v1 : Value) (fr to : Nat) (w : World) (B1 : Nat) (hB : B1 ≤ w.heap.size) (h1 : Rd w B1 3 v1 (Lx.lexF s.data.toList).length (toksCells (Lx.lexF s.data.toList)))
    (hv : ∃ g o c, v1 = .slice (some ⟨g, o, none⟩) (Lx.lexF s.data.toList).length c)
    (hs : s.size ≤ 1073741824) (hm : more.size ≤ 1073741824) (g2 : fr ≤ to) (g3 : to ≤ s.size) :
    Calls Try.prog 11 #[.string s, v1, .int .i64 (fr : Int), .int .i64 (to : Int), .string more] w (RelexPost s.data.toList more.data.toList fr to w) := by
  obtain ⟨g, o, c, rfl⟩ := hv
  exact relex_some s more fr to w B1 g o c _ rfl hB h1 hs hm g2 g3
end Go.Proofs.Ytnmebingjpnlgaa
