/- relex's alive answers true. -/
import Derived.Test.YtnmebingjpnlgaaRelL
namespace Go.Proofs.Ytnmebingjpnlgaa
open Go.RowKit Go.Lib
set_option maxRecDepth 100000
set_option linter.unusedVariables false

/-- true, and nothing that was there has turned. -/
def TruePost (w : World) (e : Ending) (w' : World) : Prop := e = .returned (.bool true) ∧ Below w.heap.size w w'
theorem run_eql_tok (W : World) (a b c a' b' c' : Int) : (binOp .eql 27 (.agg #[.int .i64 a, .int .i64 b, .int .i64 c]) (.agg #[.int .i64 a', .int .i64 b', .int .i64 c'])).run Try.prog W = .ok (.bool (a == a' && b == b' && c == c')) W := by
  rw [run_eql_struct, run_eqIn_tok W 9998]
  rfl
def al0 : List UInt8 := [108, 101, 116, 32, 120, 32, 61, 32, 49]
def al1 : List Lx.Tok := [⟨5, 0, 3⟩, ⟨1, 4, 6⟩, ⟨6, 7, 8⟩, ⟨3, 9, 10⟩]
theorem al_toks : Lx.lexF (Lx.cutL al0 [121] 5 5) = al1 := by decide +kernel
theorem al_front : frontN al0 5 = 1 := by decide +kernel
theorem al_end : endN al0 [121] 5 5 = 2 := by decide +kernel
theorem alive_any (w : World) : Calls Try.prog 8 #[] w (TruePost w) := by
  have hq := run_eql_tok
  go_enter Try.func8, Try.ntmps8
  go_wp2_with fail
  refine (lex_any _ (by decide) _).mono ?_
  rintro e w1 ⟨v, rfl, hown, hb1⟩
  have h1 := Rd.of_own hown
  have h2 := own_either hown
  go_wp2_with fail
  refine (relex_own _ _ v 5 5 w1 w1.heap.size (Nat.le_refl _) h1 h2 (by decide) (by decide) (by decide) (by decide)).mono ?_
  rintro e w2 ⟨v2, rfl, hown2, hb2⟩
  change w2.ownsRow _ _ 3 v2 (Lx.lexF (Lx.cutL al0 [121] 5 5)).length (toksCells (Lx.lexF (Lx.cutL al0 [121] 5 5))) at hown2
  have HB := Lib.hid (hb1.trans (hb2.mono hb1.size))
  rw [al_toks] at hown2
  have hr2 := Rd.of_own hown2
  obtain ⟨-, A, c, rfl, hc, hr⟩ := hr2
  obtain ⟨g, o, rfl, hg, hr⟩ := hr (by decide)
  obtain ⟨t, ht, d0, d1, d2⟩ := rd_tok hr rfl (k := 1) (by decide)
  obtain rfl : (⟨1, 4, 6⟩ : Lx.Tok) = t := by simpa [al1] using ht
  have e1 : frontN _ 5 = 1 := al_front
  have e2 : endN _ _ 5 5 = 2 := al_end
  change w2.cell? ⟨g, o + 3, none⟩ = some (.int .i64 1) at d0
  change w2.cell? ⟨g, o + 3 + 1, none⟩ = some (.int .i64 4) at d1
  change w2.cell? ⟨g, o + 3 + 2, none⟩ = some (.int .i64 6) at d2
  change (4 : Nat) ≤ c at hc
  clear hown hown2 hb1 hb2 h1 h2 hr ht
  go_wp2
  go_ret
  exact ⟨rfl, HB.out⟩
end Go.Proofs.Ytnmebingjpnlgaa
