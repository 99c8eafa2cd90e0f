/- alive answers true. -/
import Derived.Test.YteialkkpoikelaaLexS
namespace Go.Proofs.Yteialkkpoikelaa
open Go.RowKit Go.Lib
set_option maxRecDepth 100000

/-- true, and nothing that was there has turned. -/
def TruePost (w : World) (e : Ending) (w' : World) : Prop := e = .returned (.bool true) ∧ Below w.heap.size w w'
def alive0 : List UInt8 := [108, 101, 116, 32, 120, 39, 32, 40, 42, 32, 40, 42, 32, 42, 41, 32, 42, 41, 61, 32, 49]
def alive1 : List Lx.Tok := [⟨5, 0, 3⟩, ⟨1, 4, 6⟩, ⟨6, 18, 19⟩, ⟨3, 20, 21⟩]
theorem alive_toks : Lx.lexF alive0 = alive1 := by decide +kernel
theorem alive_any (w : World) : Calls Try.prog 9 #[] w (TruePost w) := by
  go_enter Try.func9, Try.ntmps9
  go_wp2_with fail
  refine (lex_any _ (by decide) _).mono ?_
  rintro e w1 ⟨v, rfl, hown, hbel⟩
  change w1.ownsRow _ _ 3 v (Lx.lexF alive0).length (toksCells (Lx.lexF alive0)) at hown
  rw [alive_toks] at hown
  go_wp2_with fail
  refine (sameTokens_any v _ alive1 alive1 _ w1.heap.size (w1.heap.size + 1) ((Rd.of_own hown).alloc (Nat.le_refl _) _) (Rd.lit w1 _ _ 3 4 4 rfl (Nat.le_refl _)) (by decide) (by decide)).mono ?_
  rintro e w2 ⟨rfl, q, rfl⟩
  go_wp2
  go_ret
  exact ⟨by simp, below_drewN (hbel.alloc hbel.size _) q⟩
end Go.Proofs.Yteialkkpoikelaa
