/- The contract of text's isText. -/
import Derived.Test.YtdeihlbnlogjcaaDoorUtfQ
namespace Go.Proofs.YtdeihlbnlogjcaaDoor
open Go.RowKit Go.Lib Go.Shelf
set_option maxRecDepth 100000
set_option linter.unusedVariables false

theorem isText_any (s : ByteArray) (w : World) (hs : s.size ≤ 1099511627776) (hT : Tabs w) :
    Calls Tryd.prog 62 #[.string s] w fun e w' => e = .returned (.bool (validD s.data.toList)) ∧ Below w.heap.size w w' := by
  obtain ⟨capF, objF, hcb, hnews, hcap⟩ := conv_bytes (P := Tryd.prog) s 9 22 5 Tryd.underlying9 Tryd.underlying22 Tryd.underlying5
  obtain ⟨p, hp⟩ : ∃ p : Nat, p = Ut.validP s.data.toList := ⟨_, rfl⟩
  have HV : RowKit.Hid (Calls Tryd.prog 21 #[.slice (some ⟨w.heap.size, 0, none⟩) s.size (capF w)] ((w.alloc (objF w)).drew) fun e w' => e = .returned (.int .i64 (p : Nat)) ∧ Below w.heap.size w w') := by
    rw [hp]
    exact valid_conv s (by omega) w.heap.size (capF w) (objF w) w w.drew rfl ((Below.refl _ _).drew) rfl (hcap _) hT (fun j u hu => hnews w w.drew j u rfl hu)
  have HD := Lib.hid (show ((p : Int) == s.size) = validD s.data.toList by
    have hL : s.data.toList.length = s.size := by simp
    have h := Ut.validD_iff s.data.toList
    rw [hL, ← hp] at h
    cases hv : validD s.data.toList
    · rw [hv] at h
      simp at h
      simp
      omega
    · rw [hv] at h
      simp at h
      simp
      omega)
  clear hnews hcap hp
  go_enter Tryd.func62, Tryd.ntmps62
  go_wp2_with (go_at_call 21; with_reducible (refine HV.out.mono ?_); rintro e w1 ⟨rfl, hb1⟩; have HB1 := Lib.hid hb1; clear hb1)
  go_ret
  exact ⟨ret_bool HD.out, HB1.out⟩
end Go.Proofs.YtdeihlbnlogjcaaDoor
