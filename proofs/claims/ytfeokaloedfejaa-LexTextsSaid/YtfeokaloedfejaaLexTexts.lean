/- LexTexts answers true: the walk. -/
import Derived.Test.YtfeokaloedfejaaRefF
import Derived.Test.YtfeokaloedfejaaLexL
import Derived.Test.YtfeokaloedfejaaLexH
namespace Go.Proofs.Ytfeokaloedfejaa
open Go.RowKit Go.Lib
set_option maxRecDepth 100000
set_option linter.unusedVariables false

theorem lexTexts_walk (a0 : ByteArray) (w : World) (w0 : a0.size ≤ maxLen) : Calls Try.prog 3 #[.string a0] w (TruePost w) := by
  unfold maxLen at w0
  by_cases hsz : a0.size ≤ 20000
  · have hl := Lx.chain_len _ _ _ (Nat.zero_le _) (Lx.lex_chain a0.data.toList)
    rw [← sz] at hl
    go_enter Try.func3, Try.ntmps3
    go_wp2_with fail
    refine (alive_any _).mono ?_
    rintro e w1 ⟨rfl, hb1⟩
    go_wp2_with fail
    refine (lex_any _ (by omega) _).mono ?_
    rintro e w2 ⟨v, rfl, hown, hb2⟩
    go_wp2_with fail
    refine (rlex_any _ (by omega) _).mono ?_
    rintro e w3 ⟨v', rfl, hown', hb3⟩
    have hrd := (Rd.of_own hown).below hb3
    have hrd' := Rd.of_own hown'
    have hB : Below w.heap.size w w3 := (hb1.trans (hb2.mono hb1.size)).trans (hb3.mono (Nat.le_trans hb1.size hb2.size))
    clear hown hown' hb1 hb2 hb3
    go_wp2_with fail
    refine (sameTokens_any v v' _ _ _ _ _ hrd hrd' (by omega) (by omega)).mono ?_
    rintro e w4 ⟨rfl, q, rfl⟩
    go_wp2
    go_ret
    exact ⟨by simp, below_drewN hB q⟩
  · go_enter Try.func3, Try.ntmps3
    go_wp2_with fail
    refine (alive_any _).mono ?_
    rintro e w1 ⟨rfl, hb1⟩
    go_wp2
    go_ret
    exact ⟨rfl, hb1⟩
end Go.Proofs.Ytfeokaloedfejaa
