/- SameTokens. -/
import Derived.Test.YteialkkpoikelaaLexE
import Derived.Test.YteialkkpoikelaaMem
import Derived.Deep.QuietTactic
import Derived.BigQuiet
namespace Go.Proofs.Yteialkkpoikelaa
open Go.RowKit Go.Lib
set_option maxRecDepth 100000

/-- the three cells of a token. -/
theorem toks_get : ∀ (ts : List Lx.Tok) (k : Nat) (h : k < ts.length), (toksCells ts)[k * 3]? = some (.int .i64 (ts[k].kind : Int)) ∧ (toksCells ts)[k * 3 + 1]? = some (.int .i64 (ts[k].a : Int)) ∧ (toksCells ts)[k * 3 + 2]? = some (.int .i64 (ts[k].b : Int))
  | t :: ts, 0, _ => by simp [toksCells, tokCells]
  | t :: ts, k + 1, h => by
    have := toks_get ts k (by simpa using h)
    have e : toksCells (t :: ts) = tokCells t ++ toksCells ts := by simp [toksCells]
    have e0 : ∀ j, (toksCells (t :: ts))[3 + j]? = (toksCells ts)[j]? := by
      intro j
      rw [e, List.getElem?_append_right (by simp [tokCells])]
      simp [tokCells]
    have a0 : (k + 1) * 3 = 3 + k * 3 := by omega
    have a1 : (k + 1) * 3 + 1 = 3 + (k * 3 + 1) := by omega
    have a2 : (k + 1) * 3 + 2 = 3 + (k * 3 + 2) := by omega
    rw [a2, a1, a0, e0, e0, e0]
    simpa using this
theorem rd_tok {w : World} {g o n : Nat} {ts : List Lx.Tok} (hr : ∀ j, j < n * 3 → w.cell? ⟨g, o + j, none⟩ = (toksCells ts)[j]?) (hn : n = ts.length) {k : Nat} (h : k < n) :
    ∃ t, ts[k]? = some t ∧ w.cell? ⟨g, o + k * 3, none⟩ = some (.int .i64 (t.kind : Int)) ∧ w.cell? ⟨g, o + k * 3 + 1, none⟩ = some (.int .i64 (t.a : Int)) ∧ w.cell? ⟨g, o + k * 3 + 2, none⟩ = some (.int .i64 (t.b : Int)) := by
  have hk : k < ts.length := by omega
  obtain ⟨c0, c1, c2⟩ := toks_get ts k hk
  refine ⟨ts[k], List.getElem?_eq_getElem hk, ?_, ?_, ?_⟩
  · rw [hr _ (by omega)]; exact c0
  · rw [Nat.add_assoc, hr _ (by omega)]; exact c1
  · rw [Nat.add_assoc, hr _ (by omega)]; exact c2

theorem run_eqIn_tok (W : World) (d : Nat) (a b c a' b' c' : Int) : (Op.equalIn (d + 2) 28 (.agg #[.int .i64 a, .int .i64 b, .int .i64 c]) (.agg #[.int .i64 a', .int .i64 b', .int .i64 c'])).run Try.prog W = .ok (a == a' && b == b' && c == c') W := by
  have hst : Try.prog.stoodInHeld 28 = false := by kernel_rfl
  have hu : Try.prog.underlying 28 = some (.struct (Try.prog.fieldsOf 28)) := by kernel_rfl
  rw [run_equalIn_agg W _ _ _ _ hu hst]
  cases h1 : a == a' <;> cases h2 : b == b' <;> cases h3 : c == c' <;> simp [go_sem, h1, h2, h3]
theorem run_neq_tok (W : World) (a b c a' b' c' : Int) : (binOp .neq 28 (.agg #[.int .i64 a, .int .i64 b, .int .i64 c]) (.agg #[.int .i64 a', .int .i64 b', .int .i64 c'])).run Try.prog W = .ok (.bool (!(a == a' && b == b' && c == c'))) W := by
  rw [run_neq_struct, run_eqIn_tok W 9998]
  rfl
theorem tok_far {ts1 ts2 : List Lx.Tok} {k : Nat} {x y : Lx.Tok} (hx : ts1[k]? = some x) (hy : ts2[k]? = some y) (h : ((!(x.kind : Int) == y.kind) = true ∨ (!(x.a : Int) == y.a) = true) ∨ (!(x.b : Int) == y.b) = true) : false = decide (ts1 = ts2) := by
  symm
  rw [decide_eq_false_iff_not]
  rintro rfl
  rw [hx] at hy
  injection hy with hy
  subst hy
  simp at h
theorem tok_near {ts1 ts2 : List Lx.Tok} {k : Nat} {x y : Lx.Tok} (hx : ts1[k]? = some x) (hy : ts2[k]? = some y) (h : ((!(x.kind : Int) == y.kind) = false ∧ (!(x.a : Int) == y.a) = false) ∧ (!(x.b : Int) == y.b) = false) (he : ts1.take k = ts2.take k) : ts1.take (k + 1) = ts2.take (k + 1) := by
  have hxy : x = y := by
    simp only [Bool.not_eq_false', beq_iff_eq] at h
    obtain ⟨⟨h1, h2⟩, h3⟩ := h
    obtain ⟨xk, xa, xb⟩ := x
    obtain ⟨yk, ya, yb⟩ := y
    simp only [Lx.Tok.mk.injEq]
    simp only at h1 h2 h3
    omega
  rw [List.take_add_one, List.take_add_one, he, hx, hy, hxy]
/-- two lists of tokens are alike just if SameTokens says so. -/
def SamePost (ts1 ts2 : List Lx.Tok) (w : World) (e : Ending) (w' : World) : Prop := e = .returned (.bool (decide (ts1 = ts2))) ∧ ∃ q, w' = w.drewN q
set_option maxHeartbeats 1000000 in
theorem sameTokens_any (v1 v2 : Value) (ts1 ts2 : List Lx.Tok) (w : World) (B1 B2 : Nat) (h1 : Rd w B1 3 v1 ts1.length (toksCells ts1)) (h2 : Rd w B2 3 v2 ts2.length (toksCells ts2)) (hb : ts1.length ≤ 1152921504606846976) (hb2 : ts2.length ≤ 1152921504606846976) :
    Calls Try.prog 10 #[v1, v2] w (SamePost ts1 ts2 w) := by
  obtain ⟨hl1, A1, c1, rfl, hc1, h1⟩ := h1
  obtain ⟨hl2, A2, c2, rfl, hc2, h2⟩ := h2
  by_cases hlen : ts1.length = ts2.length
  · rcases Nat.eq_zero_or_pos ts1.length with h0 | h0
    · have e1 : ts1 = [] := List.eq_nil_of_length_eq_zero h0
      have e2 : ts2 = [] := List.eq_nil_of_length_eq_zero (by omega)
      subst e1 e2
      simp only [List.length_nil] at *
      clear h1 h2 hlen
      go_enter Try.func10, Try.ntmps10
      go_wp2
      go_loop [5] (fun i => i = .int .i64 0) (fun _ => 0)
      case atStart => rfl
      case round =>
        obtain rfl := hrel
        go_wp2
        go_ret
        exact ⟨rfl, 0, rfl⟩
    · obtain ⟨g1, o1, rfl, hg1, hr1⟩ := h1 h0
      obtain ⟨g2, o2, rfl, hg2, hr2⟩ := h2 (by omega)
      obtain ⟨n, hn⟩ : ∃ n, n = ts1.length := ⟨_, rfl⟩
      rw [← hlen] at hr2 hc2 ⊢
      rw [← hn] at h0 hr1 hr2 hc1 hc2 hb ⊢
      have HL := Lib.hid hlen
      have HN := Lib.hid hn
      have R1 := Lib.hid hr1
      have R2 := Lib.hid hr2
      clear hlen hn hr1 hr2 hl1 hl2 h1 h2
      go_enter Try.func10, Try.ntmps10
      go_wp2
      go_loopw [5] (fun i wr => ∃ k q : Nat, k ≤ n ∧ i = .int .i64 k ∧ wr = w.drewN q ∧ ts1.take k = ts2.take k) (fun i _ => n - (intOf i).toNat)
      case atStart => exact ⟨0, 0, by omega, rfl, rfl, by simp⟩
      case round =>
        obtain ⟨k, q, hk, rfl, rfl, heq⟩ := hrel
        have HE := Lib.hid heq
        clear heq
        by_cases hlt : k < n
        · obtain ⟨x, hx, a0, a1, a2⟩ := rd_tok R1.out HN.out hlt
          obtain ⟨y, hy, b0, b1, b2⟩ := rd_tok R2.out (HN.out.trans HL.out) hlt
          have HX := Lib.hid hx
          have HY := Lib.hid hy
          clear hx hy
          have hnq := run_neq_tok
          go_wp2
          go_quiet (fail)
          go_wp2
          · rename_i h
            go_ret
            exact ⟨ret_bool (tok_far HX.out HY.out h), q + nq, World.drewN_drewN _ _ _⟩
          · rename_i h
            go_roundw
            case rel => exact ⟨k + 1, q + nq, by omega, by go_num, rfl, tok_near HX.out HY.out h HE.out⟩
            case measure => simp [intOf]; omega
        · go_wp2
          go_ret
          refine ⟨ret_bool ?_, q, rfl⟩
          have e := HE.out
          rw [List.take_of_length_le (by have := HN.out; omega), List.take_of_length_le (by have := HN.out; have := HL.out; omega)] at e
          rw [e]; simp
  · have hne : ((ts1.length : Int) != ts2.length) = true := by simp; omega
    have hd : false = decide (ts1 = ts2) := by
      symm
      rw [decide_eq_false_iff_not]
      rintro rfl
      exact hlen rfl
    have HD := Lib.hid hd
    clear hd hlen h1 h2 hl1 hl2
    go_enter Try.func10, Try.ntmps10
    go_wp2
    go_ret
    exact ⟨ret_bool HD.out, 0, rfl⟩
end Go.Proofs.Yteialkkpoikelaa
