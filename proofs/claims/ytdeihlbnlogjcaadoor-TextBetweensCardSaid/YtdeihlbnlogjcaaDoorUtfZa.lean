/- The walk of UtfPlaces. -/
import Derived.Test.YtdeihlbnlogjcaaDoorUtfZ
import Derived.Test.YtdeihlbnlogjcaaDoorUtfX
namespace Go.Proofs.YtdeihlbnlogjcaaDoor
open Go.RowKit Go.Lib Go.Shelf
set_option maxRecDepth 100000
set_option linter.unusedVariables false

theorem first_c : FirstC := fun v L w B hB h hl => first_any v L w B hB h hl
def offA (L : List UInt8) (n : Int) : Int := if validD L = true then (match Ut.offF 0 0 (Ut.runesF L) n with | some o => o | none => 0) else 0
def offK (L : List UInt8) (n : Int) : Int := if validD L = true then (match Ut.offF 0 0 (Ut.runesF L) n with | some _ => 0 | none => 70) else 40
def uniA (L : List UInt8) (n : Int) : Int := if validD L = true then (match Ut.unitF 0 0 (Ut.runesF L) n with | some o => o | none => 0) else 0
def uniK (L : List UInt8) (n : Int) : Int := if validD L = true then (match Ut.unitF 0 0 (Ut.runesF L) n with | some _ => 0 | none => 70) else 40
theorem OffPost.one {L : List UInt8} {n : Int} {w w' : World} {e : Ending} (h : OffPost L n w e w') : e = .returned (.tuple #[.int .i64 (offA L n), .int .i64 (offK L n)]) ∧ Below w.heap.size w w' := by
  refine ⟨h.1.trans ?_, h.2⟩
  unfold offA offK
  split
  · cases Ut.offF 0 0 (Ut.runesF L) n <;> rfl
  · rfl
theorem UnitPost.one {L : List UInt8} {n : Int} {w w' : World} {e : Ending} (h : UnitPost L n w e w') : e = .returned (.tuple #[.int .i64 (uniA L n), .int .i64 (uniK L n)]) ∧ Below w.heap.size w w' := by
  refine ⟨h.1.trans ?_, h.2⟩
  unfold uniA uniK
  split
  · cases Ut.unitF 0 0 (Ut.runesF L) n <;> rfl
  · rfl
set_option maxHeartbeats 1500000 in
theorem utfPlaces_walk (s : ByteArray) (n : Int) (w : World) (hs : s.size ≤ maxLen) (_ : (Lit.int .i64 n).wf = true) (hT : Tabs w) : Calls Tryd.prog 5 #[.string s, .int .i64 n] w (TruePost w) := by
  go_enter Tryd.func5, Tryd.ntmps5
  go_wp2_with fail
  refine (alive_any w hT).mono ?_
  rintro e w1 ⟨rfl, hb1⟩
  have HB1 := Lib.hid hb1
  have HT1 := Lib.hid (Utf8Tabs_below hT hb1)
  clear hb1
  by_cases hlen : s.size > 5000
  · have hl : (s.size : Int) > 5000 := by omega
    go_wp2
    go_ret
    exact ⟨rfl, HB1.out⟩
  · have hl : ¬ (s.size : Int) > 5000 := by omega
    obtain ⟨a, ha⟩ : ∃ a, a = offA s.data.toList n := ⟨_, rfl⟩
    obtain ⟨k, hk⟩ : ∃ a, a = offK s.data.toList n := ⟨_, rfl⟩
    obtain ⟨b, hb⟩ : ∃ a, a = uniA s.data.toList n := ⟨_, rfl⟩
    obtain ⟨m, hm⟩ : ∃ a, a = uniK s.data.toList n := ⟨_, rfl⟩
    have HE := Lib.hid (And.intro (And.intro ha hk) (And.intro hb hm))
    clear ha hk hb hm
    go_wp2_with fail
    refine (offset_any s n w1 (by omega) HT1.out).mono ?_
    rintro e w2 h
    obtain ⟨h, hb2⟩ := h.one
    rw [← HE.out.1.1, ← HE.out.1.2] at h
    subst h
    have HB2 := Lib.hid (HB1.out.trans (hb2.mono HB1.out.size))
    clear hb2
    go_wp2_with fail
    refine (roffset_any first_c s n w2 (by omega)).mono ?_
    rintro e w3 h
    obtain ⟨h, hb3⟩ := h.one
    rw [← HE.out.1.1, ← HE.out.1.2] at h
    subst h
    have HB3 := Lib.hid (HB2.out.trans (hb3.mono HB2.out.size))
    have HT3 := Lib.hid (Utf8Tabs_below hT HB3.out)
    clear hb3
    go_wp2_with fail
    refine (unit_any s n w3 (by omega) HT3.out).mono ?_
    rintro e w4 h
    obtain ⟨h, hb4⟩ := h.one
    rw [← HE.out.2.1, ← HE.out.2.2] at h
    subst h
    have HB4 := Lib.hid (HB3.out.trans (hb4.mono HB3.out.size))
    clear hb4
    go_wp2_with fail
    refine (runit_any first_c s n w4 (by omega)).mono ?_
    rintro e w5 h
    obtain ⟨h, hb5⟩ := h.one
    rw [← HE.out.2.1, ← HE.out.2.2] at h
    subst h
    have HB5 := Lib.hid (HB4.out.trans (hb5.mono HB4.out.size))
    clear hb5
    go_wp2
    go_ret
    exact ⟨rfl, HB5.out⟩
end Go.Proofs.YtdeihlbnlogjcaaDoor
