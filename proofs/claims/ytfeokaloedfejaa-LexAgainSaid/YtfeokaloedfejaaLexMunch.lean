/- LexMunch answers true: the walk. -/
import Derived.Test.YtfeokaloedfejaaLexL
import Derived.Test.YtfeokaloedfejaaLexK
import Derived.Test.YtfeokaloedfejaaLexM
import Derived.Test.YtfeokaloedfejaaLexH
import Derived.Deep.RegionHeld3
namespace Go.Proofs.Ytfeokaloedfejaa
open Go.RowKit Go.Lib
set_option maxRecDepth 100000
set_option linter.unusedVariables false

theorem wordF_nat (s : ByteArray) {a b : Nat} (h : a ≤ b) (hb : b ≤ s.size) : wordF s a b = s.extract a b := by
  unfold wordF
  rw [if_pos (by omega)]
  simp
/-- Word of a token that is there. -/
theorem word_at (s : ByteArray) (k a b : Nat) (h : a ≤ b) (hb : b ≤ s.size) (hs : s.size ≤ 9223372036854775807) (w : World) :
    Calls Try.prog 13 #[.string s, .agg #[.int .i64 (k : Int), .int .i64 (a : Int), .int .i64 (b : Int)]] w fun e w' => e = .returned (.string (s.extract a b)) ∧ w.alloc (tokBox k a b) = w' := by
  have := word_any s k a b w hs
  rw [wordF_nat s h hb] at this
  exact this
/-- Kind of a piece of a text. -/
theorem kind_at (s : ByteArray) (a b : Nat) (hb : b ≤ s.size) (hs : s.size ≤ 9223372036854775807) (w : World) :
    Calls Try.prog 17 #[.string (s.extract a b)] w fun e w' => e = .returned (.int .i64 (kindF ((s.data.toList.drop a).take (b - a)))) ∧ w = w' := by
  have := kind_any (s.extract a b) w (by simp; omega)
  rw [ext_cut] at this
  exact this
theorem kind_own {l : List UInt8} {t : Lx.Tok} (ht : t ∈ Lx.lexF l) (hk : t.kind ≠ 7) : kindF ((l.drop t.a).take (t.b - t.a)) = t.kind := by
  have e := Lx.tok_front l ht hk (Nat.le_refl _)
  obtain ⟨h1, h2, h3, _⟩ := Lx.lex_at l ht
  have hl : ((l.drop t.a).take (t.b - t.a)).length = t.b - t.a := by rw [List.length_take, List.length_drop]; omega
  unfold kindF
  rw [if_neg (fun x => by rw [x] at hl; simp at hl; omega), e, hl, if_neg]
  rintro (h | h)
  · exact hk h
  · simp at h
theorem kind_more {l : List UInt8} {t : Lx.Tok} (ht : t ∈ Lx.lexF l) (hk : t.kind ≠ 7) {j : Nat} (hj : t.b < j) (hjl : j ≤ l.length) : kindF ((l.drop t.a).take (j - t.a)) = 0 := by
  have e := Lx.tok_front l ht hk (j := j) (by omega)
  obtain ⟨h1, h2, h3, _⟩ := Lx.lex_at l ht
  have hl : ((l.drop t.a).take (j - t.a)).length = j - t.a := by rw [List.length_take, List.length_drop]; omega
  unfold kindF
  rw [if_neg (fun x => by rw [x] at hl; simp at hl; omega), e, hl, if_pos]
  exact .inr (by show t.b - t.a < j - t.a; omega)

set_option maxHeartbeats 2000000 in
theorem lexMunch_walk (a0 : ByteArray) (w : World) (w0 : a0.size ≤ maxLen) : Calls Try.prog 8 #[.string a0] w (TruePost w) := by
  unfold maxLen at w0
  by_cases hsz : a0.size ≤ 300
  · obtain ⟨ts, hts⟩ : ∃ ts, ts = Lx.lexF a0.data.toList := ⟨_, rfl⟩
    go_enter Try.func8, Try.ntmps8
    go_wp2_with fail
    refine (alive_any _).mono ?_
    rintro e w1 ⟨rfl, hb1⟩
    go_wp2_with fail
    refine (lex_any _ (by omega) _).mono ?_
    rintro e w2 ⟨v, rfl, hown, hb2⟩
    rw [← hts] at hown
    have hrd := Rd.of_own hown
    have hB : Below w.heap.size w w2 := hb1.trans (hb2.mono hb1.size)
    clear hown hb1 hb2
    obtain ⟨hl, A, c, rfl, hc, hr⟩ := hrd
    obtain ⟨n, hn⟩ : ∃ n, n = ts.length := ⟨_, rfl⟩
    rw [← hn] at hr hc hl ⊢
    have hnl : n ≤ a0.size := by have := Lx.chain_len _ _ _ (Nat.zero_le _) (Lx.lex_chain a0.data.toList); rw [← hts, ← sz] at this; omega
    have HN := Lib.hid hn
    have HR := Lib.hid hr
    have HB := Lib.hid hB
    have HT := Lib.hid hts
    clear hn hr hts hl hB
    go_wp2_with fail
    go_loopw [4] (fun v wr => ∃ i : Nat, i ≤ n ∧ v = .int .i64 i ∧ Below w2.heap.size w2 wr) (fun v _ => n - (intOf v).toNat)
    case atStart => exact ⟨0, by omega, rfl, Below.refl _ _⟩
    case round =>
      obtain ⟨i, hi, rfl, hbr⟩ := hrel
      have HBR := Lib.hid hbr
      clear hbr
      by_cases hlt : i < n
      · obtain ⟨g, o, rfl, hg, hr⟩ := HR.out (by omega)
        obtain ⟨t, ht, d0, d1, d2⟩ := rd_tok hr HN.out hlt
        have c0 := (HBR.out.cell (p := ⟨g, o + i * 3, none⟩) hg).trans d0
        have c1 := (HBR.out.cell (p := ⟨g, o + i * 3 + 1, none⟩) hg).trans d1
        have c2 := (HBR.out.cell (p := ⟨g, o + i * 3 + 2, none⟩) hg).trans d2
        have hm : t ∈ Lx.lexF a0.data.toList := by rw [← HT.out]; exact List.mem_of_getElem? ht
        obtain ⟨q1, q2, q3, _⟩ := Lx.lex_at _ hm
        rw [← sz] at q1 q3
        have HM := Lib.hid hm
        clear ht hr d0 d1 d2 hm
        by_cases hk : t.kind = 7
        · have hk' : ((t.kind : Int) == 7) = true := by simp; omega
          go_wp2
          go_roundw
          case rel => exact ⟨i + 1, by omega, by go_num, HBR.out⟩
          case measure => simp [intOf]; omega
        · have hk' : ((t.kind : Int) == 7) = false := by simp; omega
          have K1 := Lib.hid (show ∀ W : World, Calls Try.prog 17 #[.string (a0.extract t.a t.b)] W fun e w' => e = .returned (.int .i64 (t.kind : Int)) ∧ W = w' from fun W => by
            have := kind_at a0 t.a t.b q3 (by omega) W
            rw [kind_own HM.out hk] at this
            exact this)
          have K2 := Lib.hid (show ∀ (j : Nat) (W : World), t.b < j → j ≤ a0.size → Calls Try.prog 17 #[.string (a0.extract t.a j)] W fun e w' => e = .returned (.int .i64 0) ∧ W = w' from fun j W h1 h2 => by
            have := kind_at a0 t.a j h2 (by omega) W
            rw [kind_more HM.out hk h1 h2] at this
            exact this)
          have hgl : g < wr.heap.size := Nat.lt_of_lt_of_le hg HBR.out.size
          have hi1 : (i : Int) < n := by omega
          go_wp2_with fail
          go_region_held3 (fun w' => w'.cell? ⟨g, o + i * 3, none⟩ = some (.int .i64 (t.kind : Int)) ∧ w'.cell? ⟨g, o + i * 3 + 1, none⟩ = some (.int .i64 (t.a : Int)) ∧ w'.cell? ⟨g, o + i * 3 + 2, none⟩ = some (.int .i64 (t.b : Int))) (go_keep)
            (first | (go_at_call 13; refine (word_at a0 t.kind t.a t.b (by omega) q3 (by omega) _).mono ?_; rintro e w' ⟨rfl, rfl⟩) | (go_at_call 17; refine (K1.out _).mono ?_; rintro e w' ⟨rfl, rfl⟩))
          go_wp2
          go_loop [5] (fun v => ∃ j : Nat, t.b + 1 ≤ j ∧ j ≤ a0.size + 1 ∧ v = .int .i64 j) (fun v => a0.size + 1 - (intOf v).toNat)
          case atStart => exact ⟨t.b + 1, by omega, by omega, by go_num⟩
          case round =>
            obtain ⟨j, hj1, hj2, rfl⟩ := hrel
            by_cases hj : j ≤ a0.size
            · go_wp2_with (go_at_call 17; refine (K2.out j _ (by omega) hj).mono ?_; rintro e w' ⟨rfl, rfl⟩)
              · go_round
                case rel => exact ⟨j + 1, by omega, by omega, by go_num⟩
                case measure => simp [intOf]; omega
              · go_roundw
                case rel => exact ⟨i + 1, by omega, by go_num, (HBR.out.alloc HBR.out.size _).drew⟩
                case measure => simp [intOf]; omega
            · go_wp2
              go_roundw
              case rel => exact ⟨i + 1, by omega, by go_num, (HBR.out.alloc HBR.out.size _).drew⟩
              case measure => simp [intOf]; omega
      · go_wp2
        go_ret
        exact ⟨rfl, HB.out.trans (HBR.out.mono HB.out.size)⟩
  · go_enter Try.func8, Try.ntmps8
    go_wp2_with fail
    refine (alive_any _).mono ?_
    rintro e w1 ⟨rfl, hb1⟩
    go_wp2
    go_ret
    exact ⟨rfl, hb1⟩
end Go.Proofs.Ytfeokaloedfejaa
