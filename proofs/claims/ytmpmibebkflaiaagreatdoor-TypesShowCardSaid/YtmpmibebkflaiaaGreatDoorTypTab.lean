/- The tables that the rows of this seat list: a world that meets the condition, and what it gives a walk. -/
import Derived.Test.YtmpmibebkflaiaaGreatDoorRows
import Derived.Test.YtmpmibebkflaiaaGreatDoorTypRn
import Derived.Lay
import Derived.Lib.LaidIn
import Derived.Lib.LaidTab
import Derived.Lib.LaidU8
import Derived.Deep.DeepHandedRow
import Derived.Deep.DeepWitnessRowRef
import Derived.ProofKit
import Derived.SizedLaws
namespace Go.Proofs.YtmpmibebkflaiaaGreatDoor
open Go.RowKit Go.Lib Go.Shelf
set_option maxRecDepth 100000

def laidList : List (String × DataW Unit) := Rows.typesShowRow.laid
/-- a world that meets the condition. -/
noncomputable def laidWorld (os : Os) : World := World.laidAll Tryz.prog os laidList
theorem laid_met (os : Os) (args : Array Value) : laidMet Tryz.prog laidList ((laidWorld os).forCall (fun _ _ => 0) ⟨#[], args, []⟩).memory :=
  laidMet_laidAll args (by kernel_rfl) (by kernel_rfl)
theorem data_pow : (Rows.laid_internal_strconv_uint64pow10 : DataW Unit) = Lib.tabData .u64 Lib.pow10Tab := by kernel_rfl
theorem pow_of_laid {W : World} (hL : laidMetH Tryz.prog laidList W) : PowB W.heap.size W := by
  obtain ⟨g', t', cs, fuel, p, hg', ht', hvar, hd⟩ := Lib.laidMet.reads hL (.tail _ (.tail _ (.head _)))
  rw [data_pow] at hd
  obtain rfl := Option.some.inj ((show Tryz.prog.globalNamed "internal/strconv.uint64pow10" = some 0 by kernel_rfl).symm.trans hg')
  obtain rfl := Option.some.inj ((show (Tryz.prog.globals[0]?).map (·.type) = some 99 by kernel_rfl).symm.trans ht')
  refine tabBelow_of_tabIs ?_
  unfold Lib.TabIs
  rw [hvar, ← Lib.cells_of_tab Tryz.underlying99 Tryz.underlying80 (by kernel_rfl) (by kernel_rfl) hd]
theorem iface_trod {P : Program} {w : World} {fuel : Nat} {t : TypeId} {cs : Array Value} {name : String} {x : DataW Unit} {p : List MemPlace} {ms : Array (String × TypeId)} (hu : P.underlying t = some (.interface ms)) (h : DataW.trod (fun _ => ()) P w 0 (fun _ => true) false fuel t cs.toList = some (.iface name x, p)) : ∃ te pe, cs = #[.iface te pe] := by
  obtain ⟨l⟩ := cs
  simp only at h
  cases fuel with
  | zero => simp [DataW.trod] at h
  | succ fuel =>
    unfold DataW.trod at h
    rw [hu] at h
    match l, h with
    | [], h => simp at h
    | [v], h =>
      cases v with
      | iface te pe => exact ⟨te, pe, rfl⟩
      | _ => simp at h
    | a :: b :: l, h => simp at h
theorem err_cell {W : World} {n : String} {d : DataW Unit} {name : String} {x : DataW Unit} {G : Nat} (hv : Lib.VarReads Tryz.prog W n d) (hd : d = .iface name x) (hg : Tryz.prog.globalNamed n = some G) (ht : (Tryz.prog.globals[G]?).map (·.type) = some 85) : G < W.heap.size ∧ ∃ te pe, W.cell? ⟨G, 0, none⟩ = some (.iface te pe) := by
  obtain ⟨g', t', cs, fuel, p, hg', ht', hvar, hr⟩ := hv
  subst hd
  obtain rfl := Option.some.inj (hg.symm.trans hg')
  obtain rfl := Option.some.inj (ht.symm.trans ht')
  obtain ⟨te, pe, rfl⟩ := iface_trod Tryz.underlying85 hr
  unfold World.var? at hvar
  rw [hg] at hvar
  simp only [Option.bind_some] at hvar
  split at hvar
  · rename_i cs' ty fr hb
    obtain rfl := Option.some.inj hvar
    exact ⟨(Array.getElem?_eq_some_iff.1 hb).1, te, pe, by simp [World.cell?, hb]⟩
  · cases hvar
theorem errs_of_laid {W : World} (hL : laidMetH Tryz.prog laidList W) : ErrsB W.heap.size W := by
  obtain ⟨r1, te1, pe1, r2⟩ := err_cell (G := 3) (Lib.laidMet.reads hL (.tail _ (.tail _ (.tail _ (.head _))))) rfl (by kernel_rfl) (by kernel_rfl)
  obtain ⟨s1, te2, pe2, s2⟩ := err_cell (G := 2) (Lib.laidMet.reads hL (.tail _ (.tail _ (.tail _ (.tail _ (.head _)))))) rfl (by kernel_rfl) (by kernel_rfl)
  exact ⟨s1, r1, _, _, s2, .inr ⟨_, _, rfl⟩, r2, .inr ⟨_, _, rfl⟩⟩
/-- what a walk is told of the tables. -/
def Tabs (w : World) : Prop := PowB w.heap.size w ∧ ErrsB w.heap.size w
theorem tabs_of_laid {W : World} (hL : laidMetH Tryz.prog laidList W) : Tabs W := ⟨pow_of_laid hL, errs_of_laid hL⟩
end Go.Proofs.YtmpmibebkflaiaaGreatDoor
