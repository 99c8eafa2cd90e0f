/- TypesRound's walk. -/
import Derived.Test.YtmpmibebkflaiaaDoorTypTq
import Derived.Test.YtmpmibebkflaiaaDoorTypVa
namespace Go.Proofs.YtmpmibebkflaiaaDoor
open Go.RowKit Go.Lib Go.Shelf Go.Sort Tp
set_option maxRecDepth 100000
set_option linter.unusedVariables false
set_option linter.unusedSectionVars false

theorem showF_right {t : Ty} (h : rightF nameB t = true) : showF t = (⟨⟨writeB t⟩⟩, 0) := by unfold showF; rw [if_pos h]
theorem showF_wrong {t : Ty} (h : rightF nameB t = false) : showF t = (⟨#[]⟩, 120) := by unfold showF; rw [h]; rfl
theorem right_show {t : Ty} {s : ByteArray} (h : showF t = (s, 0)) : rightF nameB t = true := by
  cases hr : rightF nameB t with
  | true => rfl
  | false =>
    rw [showF_wrong hr] at h
    cases h
theorem read_written {t : Ty} (h : rightF nameB t = true) (hf : fit t) (hnm : ∀ p ∈ parts t, p.name.size ≤ 16000) (w : World) (hE : ErrsB w.heap.size w) (hP : PowB w.heap.size w) :
    Calls Tryd.prog 16 #[.string ⟨⟨writeB t⟩⟩] w (ReadOk t w) := by
  obtain ⟨j, hj⟩ := whole_write h
  have hl := write_len t (right_ok h).1 hnm
  have hw := (right_ok h).2
  have hs : (⟨⟨writeB t⟩⟩ : ByteArray).size ≤ 1000000000 := by
    show (writeB t).length ≤ _
    omega
  refine (types_read_any _ w hs (by have := tokT_len (⟨⟨writeB t⟩⟩ : ByteArray); omega) (ticks_any _) hE hP fun t' j' c' h' => ?_).mono fun e w' ⟨t', j', c', h1, h2, h3⟩ => ?_
  · obtain ⟨rfl, -, -⟩ := whole_det 301 _ _ _ _ _ _ _ _ hj h'
    exact ⟨hf, fun _ => by omega⟩
  · obtain ⟨rfl, rfl, rfl⟩ := whole_det 301 _ _ _ _ _ _ _ _ hj h1
    rw [if_pos ⟨rfl, showF_right h⟩] at h3
    exact ⟨h2, h3⟩
theorem read_fit {s : ByteArray} (hs : s.size ≤ 16000) {t : Ty} {j : Nat} {c : Bool} (h : WholeR s (tokT s) 301 0 false t j c) : fit t := by
  have hg := (whole_good (fun i => Nat.le_trans (wordT_size s (tokT s) i) hs) 301 _ _ _ _ _ h (Nat.zero_le _)).2.2
  have hl := tokT_len s
  intro p hp
  obtain ⟨h1, h2⟩ := hg p hp
  exact ⟨by omega, by omega⟩
/-- what Read answers of a text that is no more than 5000 bytes. -/
def ReadP (s : ByteArray) (w : World) (e : Ending) (w' : World) : Prop := Below w.heap.size w w' ∧ ((∃ t A cp, e = .returned (.tuple #[tv t (.slice A t.args.length cp), .int .i64 0]) ∧ RowKit.Hid (IsA w' (New w.heap.size w') t.args (.slice A t.args.length cp)) ∧ RowKit.Hid (fit t ∧ rightF nameB t = true ∧ showF t = (s, 0))) ∨ e = .returned (.tuple #[.agg #[.int .i64 0, .int .i64 0, .string ⟨#[]⟩, .slice none 0 0], .int .i64 120]))
theorem read_small (s : ByteArray) (w : World) (hs : s.size ≤ 16000) (hE : ErrsB w.heap.size w) (hP : PowB w.heap.size w) : Calls Tryd.prog 16 #[.string s] w (ReadP s w) :=
  (types_read_small s w hs hE hP).mono fun e w' ⟨t, j, c, h1, h2, h3⟩ => by
    refine ⟨h2, ?_⟩
    by_cases hc : c = false ∧ showF t = (s, 0)
    · rw [if_pos hc] at h3
      obtain ⟨A, cp, e1, e2⟩ := h3
      exact .inl ⟨t, A, cp, e1, Lib.hid e2, Lib.hid ⟨read_fit hs h1, right_show hc.2, hc.2⟩⟩
    · rw [if_neg hc] at h3
      exact .inr h3
set_option maxHeartbeats 8000000 in
theorem typesRound_walk (v0 : Value) (t : Ty) (s : ByteArray) (w : World) (h0 : ArgTy w v0 t) (h1 : s.size ≤ 140737488351232) (hT : Tabs w) : Calls Tryd.prog 4 #[v0, .string s] w (TruePost w) := by
  obtain ⟨s0, rfl, hA0, hf0, hn0⟩ := h0
  obtain ⟨A0, k0, rfl, -⟩ := hA0.form
  obtain ⟨M, hM, hx0, hMs, hMb⟩ := one_box w t (.slice A0 t.args.length k0) 24
  have hup : ∀ {W : World} {ls : List Ty} {v : Value}, Below M.heap.size M W → IsA w (Old w) ls v → IsA W (Old W) ls v := fun hW h => h.after (hMb.trans (hW.mono hMb.size))
  have HTB := Lib.hid (fun W (hW : Below M.heap.size M W) => show ErrsB W.heap.size W ∧ PowB W.heap.size W from by
    have hb := hMb.trans (hW.mono hMb.size)
    obtain ⟨a, b, c⟩ := hT.2.on hb
    have := hb.size
    exact ⟨⟨by omega, by omega, c⟩, PowB.more (hT.1.on hb) hb.size⟩)
  have HUP := Lib.hid (fun W (hW : Below M.heap.size M W) => hup hW hA0)
  have HAL := Lib.hid (fun W (hW : W = M) => hW ▸ alive_at hT hMb)
  have HG0 := Lib.hid (fun W (hW : Below M.heap.size M W) => great_any t _ W hf0 (hup hW hA0))
  have HCP := Lib.hid (fun W (hW : Below M.heap.size M W) => copyType_any t.wt t _ W (Nat.le_refl _) hf0 (hup hW hA0))
  have HR0 := Lib.hid (fun W s (hA : IsA W (Old W) t.args s) => right_any t s W hf0 hA)
  unfold NewT at HCP
  unfold tv at *
  have HX := Lib.hid (fun W (hW : Below M.heap.size M W) => box_at hx0 (by omega) hW)
  have HM := Lib.hid hM
  have HMb := Lib.hid hMb
  have HMs := Lib.hid hMs
  have HF := Lib.hid hf0
  obtain ⟨ga, hga⟩ : ∃ g, g = greatF t := ⟨_, rfl⟩
  rw [← hga] at HG0
  obtain ⟨r0, hr0⟩ : ∃ g, g = rightF nameB t := ⟨_, rfl⟩
  rw [← hr0] at HR0
  have HRR := Lib.hid hr0
  have HGG := Lib.hid hga
  clear hga hr0 hA0 hf0 hn0 hx0 hM hMb hMs hup hT
  go_enter Tryd.func4, Tryd.ntmps4
  go_wp2_with fail
  refine (HAL.out _ HM.out.symm).mono ?_
  rintro e w1 ⟨rfl, hb⟩
  have HB1 := Lib.hid (show Below M.heap.size M w1 by first | exact hb | (rw [HM.out]; exact hb) | (rw [← HM.out] at hb; exact hb))
  clear hb HAL
  obtain ⟨x0, x1, x2, x3⟩ := HX.out w1 HB1.out
  go_wp2_with fail
  refine (HG0.out w1 HB1.out).mono ?_
  rintro e w2 ⟨rfl, hb⟩
  have HB2 := Lib.hid (HB1.out.trans (hb.mono HB1.out.size))
  clear hb
  obtain ⟨x0, x1, x2, x3⟩ := HX.out w2 HB2.out
  cases ga
  case true =>
    go_wp2
    go_ret
    exact ⟨rfl, HMb.out.trans (HB2.out.mono HMb.out.size)⟩
  have HSM := Lib.hid (small_of HF.out HGG.out.symm)
  by_cases h5 : 5000 < s.size
  · have h5i : (5000 : Int) < s.size := by omega
    go_wp2
    go_ret
    exact ⟨rfl, HMb.out.trans (HB2.out.mono HMb.out.size)⟩
  have h5i : ¬ (5000 : Int) < s.size := by omega
  have HS5 := Lib.hid h5
  clear h5
  go_wp2_with fail
  refine (HCP.out w2 HB2.out).mono ?_
  rintro e w3 ⟨Ac, cc, rfl, hic, hb⟩
  have HB3 := Lib.hid (HB2.out.trans (hb.mono HB2.out.size))
  have HSH := Lib.hid (show_any t _ w3 HF.out (fun h => by have := write_len t (right_ok h).1 (fun p hp => (HSM.out.2 p hp).1); have := (right_ok h).2; omega) hic.out.new (HTB.out w3 HB3.out).2)
  unfold tv at HSH
  clear hb hic
  cases r0
  case true =>
    have hr := HRR.out.symm
    rw [showF_right hr] at HSH
    dsimp only at HSH
    obtain ⟨U, hU⟩ : ∃ U : ByteArray, U = ⟨⟨writeB t⟩⟩ := ⟨_, rfl⟩
    rw [← hU] at HSH
    go_wp2_with fail
    refine HSH.out.mono ?_
    rintro e w4 ⟨rfl, hb⟩
    have HB4 := Lib.hid (HB3.out.trans (hb.mono HB3.out.size))
    have HRD := Lib.hid (read_written hr HF.out (fun p hp => (HSM.out.2 p hp).1) w4 (HTB.out w4 HB4.out).1 (HTB.out w4 HB4.out).2)
    rw [← hU] at HRD
    have HU := Lib.hid hU
    clear hb hU hr
    go_upto_region 7 with fail
    go_wp2_with fail
    refine HRD.out.mono ?_
    rintro e w5 ⟨hb, Ag, cg, rfl, hig⟩
    have HB5 := Lib.hid (HB4.out.trans (hb.mono HB4.out.size))
    obtain ⟨W5, hW5, hbx5, hs5, hb5⟩ := one_box w5 t (.slice Ag t.args.length cg) 24
    have HBX5 := Lib.hid (HB5.out.trans (hb5.mono HB5.out.size))
    have HIG := Lib.hid (hig.new.after hb5)
    have HST := Lib.hid (sameType_any t.wt t t _ _ W5 (Nat.le_refl _) HF.out HIG.out (HUP.out W5 HBX5.out))
    rw [(same_iff t t).2 rfl] at HST
    unfold tv at HST
    have HW5 := Lib.hid hW5
    obtain ⟨z0, z1, z2, z3⟩ := hbx5
    obtain ⟨x0, x1, x2, x3⟩ := HX.out W5 HBX5.out
    clear hb hW5 hb5 hs5 hig
    unfold tv
    go_upto_region 8 with fail
    rw [← HW5.out]
    go_wp2_with fail
    refine HST.out.mono ?_
    rintro e w6 ⟨rfl, hb⟩
    have HB6 := Lib.hid (HBX5.out.trans (hb.mono HBX5.out.size))
    obtain ⟨x0, x1, x2, x3⟩ := HX.out w6 HB6.out
    clear hb
    go_wp2_with fail
    refine (HCP.out w6 HB6.out).mono ?_
    rintro e w7 ⟨Ad, cd, rfl, hid, hb⟩
    have HB7 := Lib.hid (HB6.out.trans (hb.mono HB6.out.size))
    have HR7 := Lib.hid (HR0.out w7 _ hid.out.new)
    clear hb hid
    go_wp2_with fail
    refine HR7.out.mono ?_
    rintro e w8 ⟨rfl, hb⟩
    have HB8 := Lib.hid (HB7.out.trans (hb.mono HB7.out.size))
    clear hb
    have HRS := Lib.hid (read_small s w8 (by have := HS5.out; omega) (HTB.out w8 HB8.out).1 (HTB.out w8 HB8.out).2)
    unfold ReadP tv at HRS
    go_upto_region 12 with fail
    go_wp2_with fail
    refine HRS.out.mono ?_
    rintro e wa ⟨hb, hx⟩
    have HBa := Lib.hid (HB8.out.trans (hb.mono HB8.out.size))
    clear hb
    rcases hx with ⟨u, A, cp, rfl, hia, hfu⟩ | rfl
    · obtain ⟨hfu1, hfu2, hfu3⟩ := hfu.out
      obtain ⟨Wa, hWa, hbxa, hsa, hba⟩ := one_box wa u (.slice A u.args.length cp) 24
      have HBXa := Lib.hid (HBa.out.trans (hba.mono HBa.out.size))
      have HIa := Lib.hid ((hia.out.new).after hba)
      have HSU := Lib.hid (show_any u _ Wa hfu1 (fun h => by
        rw [showF_right h] at hfu3
        have e := congrArg (fun q : ByteArray × Int => q.1.size) hfu3
        have e2 : (writeB u).length = s.size := e
        have := HS5.out
        omega) HIa.out (HTB.out Wa HBXa.out).2)
      rw [hfu3] at HSU
      have HRU := Lib.hid (fun W (hW : Below Wa.heap.size Wa W) => right_any u _ W hfu1 (HIa.out.after hW))
      rw [hfu2] at HRU
      unfold tv at HSU HRU
      have HXU := Lib.hid (fun W (hW : Below Wa.heap.size Wa W) => box_at hbxa (by omega) hW)
      have HWa := Lib.hid hWa
      obtain ⟨z0, z1, z2, z3⟩ := hbxa
      clear hWa hba hsa hia hfu hfu1 hfu2 hfu3
      go_upto_region 15 with fail
      rw [← HWa.out]
      go_wp2_with fail
      refine HSU.out.mono ?_
      rintro e wb ⟨rfl, hb⟩
      have HBb := Lib.hid hb
      have HRV := Lib.hid (HRU.out wb hb)
      obtain ⟨z0, z1, z2, z3⟩ := HXU.out wb hb
      clear hb
      go_wp2_with fail
      refine HRV.out.mono ?_
      rintro e wc ⟨rfl, hb⟩
      have HBc := Lib.hid (HBb.out.trans (hb.mono HBb.out.size))
      clear hb
      go_wp2
      go_ret
      exact ⟨rfl, HMb.out.trans ((HBXa.out.trans (HBc.out.mono HBXa.out.size)).mono HMb.out.size)⟩
    · go_wp2
      go_ret
      exact ⟨rfl, HMb.out.trans ((HBa.out.alloc HBa.out.size _).mono HMb.out.size)⟩
  case false =>
    have hr := HRR.out.symm
    rw [showF_wrong hr] at HSH
    dsimp only at HSH
    go_wp2_with fail
    refine HSH.out.mono ?_
    rintro e w4 ⟨rfl, hb⟩
    have HB4 := Lib.hid (HB3.out.trans (hb.mono HB3.out.size))
    obtain ⟨x0, x1, x2, x3⟩ := HX.out w4 HB4.out
    clear hb hr
    go_wp2_with fail
    refine (HCP.out w4 HB4.out).mono ?_
    rintro e w7 ⟨Ad, cd, rfl, hid, hb⟩
    have HB7 := Lib.hid (HB4.out.trans (hb.mono HB4.out.size))
    have HR7 := Lib.hid (HR0.out w7 _ hid.out.new)
    clear hb hid
    go_wp2_with fail
    refine HR7.out.mono ?_
    rintro e w8 ⟨rfl, hb⟩
    have HB8 := Lib.hid (HB7.out.trans (hb.mono HB7.out.size))
    clear hb
    have HRS := Lib.hid (read_small s w8 (by have := HS5.out; omega) (HTB.out w8 HB8.out).1 (HTB.out w8 HB8.out).2)
    unfold ReadP tv at HRS
    go_upto_region 12 with fail
    go_wp2_with fail
    refine HRS.out.mono ?_
    rintro e wa ⟨hb, hx⟩
    have HBa := Lib.hid (HB8.out.trans (hb.mono HB8.out.size))
    clear hb
    rcases hx with ⟨u, A, cp, rfl, hia, hfu⟩ | rfl
    · obtain ⟨hfu1, hfu2, hfu3⟩ := hfu.out
      obtain ⟨Wa, hWa, hbxa, hsa, hba⟩ := one_box wa u (.slice A u.args.length cp) 24
      have HBXa := Lib.hid (HBa.out.trans (hba.mono HBa.out.size))
      have HIa := Lib.hid ((hia.out.new).after hba)
      have HSU := Lib.hid (show_any u _ Wa hfu1 (fun h => by
        rw [showF_right h] at hfu3
        have e := congrArg (fun q : ByteArray × Int => q.1.size) hfu3
        have e2 : (writeB u).length = s.size := e
        have := HS5.out
        omega) HIa.out (HTB.out Wa HBXa.out).2)
      rw [hfu3] at HSU
      have HRU := Lib.hid (fun W (hW : Below Wa.heap.size Wa W) => right_any u _ W hfu1 (HIa.out.after hW))
      rw [hfu2] at HRU
      unfold tv at HSU HRU
      have HXU := Lib.hid (fun W (hW : Below Wa.heap.size Wa W) => box_at hbxa (by omega) hW)
      have HWa := Lib.hid hWa
      obtain ⟨z0, z1, z2, z3⟩ := hbxa
      clear hWa hba hsa hia hfu hfu1 hfu2 hfu3
      go_upto_region 15 with fail
      rw [← HWa.out]
      go_wp2_with fail
      refine HSU.out.mono ?_
      rintro e wb ⟨rfl, hb⟩
      have HBb := Lib.hid hb
      have HRV := Lib.hid (HRU.out wb hb)
      obtain ⟨z0, z1, z2, z3⟩ := HXU.out wb hb
      clear hb
      go_wp2_with fail
      refine HRV.out.mono ?_
      rintro e wc ⟨rfl, hb⟩
      have HBc := Lib.hid (HBb.out.trans (hb.mono HBb.out.size))
      clear hb
      go_wp2
      go_ret
      exact ⟨rfl, HMb.out.trans ((HBXa.out.trans (HBc.out.mono HBXa.out.size)).mono HMb.out.size)⟩
    · go_wp2
      go_ret
      exact ⟨rfl, HMb.out.trans ((HBa.out.alloc HBa.out.size _).mono HMb.out.size)⟩
end Go.Proofs.YtmpmibebkflaiaaDoor
