/- TypesChain's walk. -/
import Derived.Test.YtmpmibebkflaiaaDoorTypOp
import Derived.Test.YtmpmibebkflaiaaDoorTypTab
import Derived.Deep.CutRange
import Derived.Deep.RegionHeld3
namespace Go.Proofs.YtmpmibebkflaiaaDoor
open Go.RowKit Go.Lib Go.Shelf Go.Sort Tp
set_option maxRecDepth 100000
set_option linter.unusedVariables false
set_option linter.unusedSectionVars false

theorem alive_at {w W : World} (hT : Tabs w) (hb : Below w.heap.size w W) : Calls Tryd.prog 8 #[] W fun e w' => e = .returned (.bool true) ∧ Below W.heap.size W w' :=
  alive_any W (by obtain ⟨a, b, c⟩ := hT.2.on hb; have := hb.size; exact ⟨by omega, by omega, c⟩) (PowB.more (hT.1.on hb) hb.size)
theorem one_box (w : World) (t : Ty) (s1 : Value) (e : TypeId) : ∃ M, M = w.alloc (.cells #[.int .i64 t.kind, .int .i64 t.num, .string t.name, s1] e) ∧
    BoxT t s1 w.heap.size M ∧ M.heap.size = w.heap.size + 1 ∧ Below w.heap.size w M :=
  ⟨_, rfl, boxT_new w t s1 e, by simp, (Below.refl _ _).alloc (Nat.le_refl _) _⟩
theorem three_boxes (w : World) (t u v : Ty) (s1 s2 s3 : Value) (e : TypeId) : ∃ M, M = ((w.alloc (.cells #[.int .i64 t.kind, .int .i64 t.num, .string t.name, s1] e)).alloc (.cells #[.int .i64 u.kind, .int .i64 u.num, .string u.name, s2] e)).alloc (.cells #[.int .i64 v.kind, .int .i64 v.num, .string v.name, s3] e) ∧
    BoxT t s1 w.heap.size M ∧ BoxT u s2 (w.heap.size + 1) M ∧ BoxT v s3 (w.heap.size + 2) M ∧ M.heap.size = w.heap.size + 3 ∧ Below w.heap.size w M := by
  obtain ⟨W, hW, h1, h2, hs, hb⟩ := two_boxes w t u s1 s2 e
  refine ⟨_, by rw [← hW], ?_, ?_, ?_, by simp [hs], hb.trans ((Below.refl _ _).alloc (by omega) _)⟩
  · exact h1.keep ((Below.refl W.heap.size W).alloc (Nat.le_refl _) _) (by omega)
  · exact h2.keep ((Below.refl W.heap.size W).alloc (Nat.le_refl _) _) (by omega)
  · have := boxT_new W v s3 e
    rw [hs] at this
    exact this
/-- the cells of a box, at a later world. -/
theorem box_at {M W : World} {t : Ty} {s : Value} {B : Nat} (h : BoxT t s B M) (hs : B < M.heap.size) (hb : Below M.heap.size M W) :
    W.cell? ⟨B, 0, none⟩ = some (.int .i64 t.kind) ∧ W.cell? ⟨B, 1, none⟩ = some (.int .i64 t.num) ∧ W.cell? ⟨B, 2, none⟩ = some (.string t.name) ∧ W.cell? ⟨B, 3, none⟩ = some s := h.keep hb hs


/-- the parts of a type whose variables stand for others. -/
theorem parts_subst (t : Ty) : ∀ {σ : Int → Ty} {p : Ty}, p ∈ parts (subst σ t) → (∃ q ∈ parts t, q.kind ≠ 1 ∧ p.name = q.name ∧ p.args.length = q.args.length) ∨ (∃ q ∈ parts t, q.kind = 1 ∧ p ∈ parts (σ q.num)) := by
  refine Ty.ind (P := fun t => ∀ {σ : Int → Ty} {p : Ty}, p ∈ parts (subst σ t) → (∃ q ∈ parts t, q.kind ≠ 1 ∧ p.name = q.name ∧ p.args.length = q.args.length) ∨ (∃ q ∈ parts t, q.kind = 1 ∧ p ∈ parts (σ q.num))) (fun t ih => ?_) t
  intro σ p hp
  by_cases hk : t.kind = 1
  · rw [subst_var hk] at hp
    exact .inr ⟨t, parts_self t, hk, hp⟩
  · rw [subst_con hk, parts_eq, partss_eq] at hp
    rcases List.mem_cons.1 hp with rfl | hp
    · exact .inl ⟨t, parts_self t, hk, rfl, by simp [Ty.args]⟩
    · obtain ⟨y, hy, hpy⟩ := List.mem_flatMap.1 hp
      obtain ⟨x, hx, rfl⟩ := List.mem_map.1 (show y ∈ t.args.map (subst σ) from hy)
      rcases ih x hx hpy with ⟨q, hq, h⟩ | ⟨q, hq, h⟩
      · exact .inl ⟨q, parts_mem hx hq, h⟩
      · exact .inr ⟨q, parts_mem hx hq, h⟩
theorem fit_subst {t : Ty} {σ : Int → Ty} (hf : fit t) (h : ∀ n, fit (σ n)) : fit (subst σ t) := by
  intro p hp
  rcases parts_subst t hp with ⟨q, hq, -, h1, h2⟩ | ⟨q, hq, -, h1⟩
  · rw [h1, h2]
    exact hf q hq
  · exact h _ p h1
theorem fit_close {t : Ty} (hf : fit t) (h : rightF nameB t = true) : fit (closeF t) := by
  rw [close_eq (right_ok h).1]
  exact fit_subst hf fun n => fit_var _
theorem wf_small {n : Int} (h0 : 0 ≤ n) (h : n < 1073741824) : (Lit.int .i64 n).wf = true := by
  simp only [Lit.wf, Bool.and_eq_true, decide_eq_true_iff]
  have e1 : IntKind.i64.min = -9223372036854775808 := by decide
  have e2 : IntKind.i64.max = 9223372036854775807 := by decide
  rw [e1, e2]
  omega
theorem take_at {P : Program} {md : Region.Mode} {ops : Array Oper} {Q : Exit → Act → World → Prop} {S : World → Prop} {i : Nat} {oi : Oper} {d : Option Tmp} {v : Value} {fuel : Nat} {listed : Array Bool} {a : Act} {w : World} (hi : ops[i]? = some oi) (hd : oi.dst = d)
    (hs : Region.noSelect ops = true) (hf : Region.free md ops listed i = true) (hr : (Region.ready md ops listed).contains i = true)
    (hQ : ∀ c a w, Q (.panic c) (a.put d v) w → Q (.panic c) a w) (hy : YieldsIf P ops S oi v a) (hS : S w)
    (h : wpAnyH P md ops Q S fuel (listed.setIfInBounds i true) (a.put d v) w) : wpAnyH P md ops Q S (fuel + 1) listed a w := by
  subst hd
  exact wpAnyH_take hi hs hf hr hQ hy hS h
theorem keepW {wb w' w'' : World} (hb : RowKit.Hid (Below w'.heap.size w' w'')) (h : RowKit.Hid (Below wb.heap.size wb w')) : RowKit.Hid (Below wb.heap.size wb w'') := h.out.trans (hb.out.mono h.out.size)
theorem numsOk_ok {t : Ty} (h : okT nameB t) : numsOk t := by
  intro p hp
  have h1 := h p hp
  by_cases hk : p.kind = 1
  · have := (rp_var h1 hk).2
    exact wf_small (by omega) (by omega)
  · rw [rp_num h1 hk]
    decide
set_option maxHeartbeats 8000000 in
theorem typesChain_walk (v0 : Value) (a : Ty) (v1 : Value) (b : Ty) (v2 : Value) (c : Ty) (w : World) (h0 : ArgTy w v0 a) (h1 : ArgTy w v1 b) (h2 : ArgTy w v2 c) (hT : Tabs w) : Calls Tryd.prog 6 #[v0, v1, v2] w (TruePost w) := by
  obtain ⟨s0, rfl, hA0, hf0, hn0⟩ := h0
  obtain ⟨s1, rfl, hA1, hf1, hn1⟩ := h1
  obtain ⟨s2, rfl, hA2, hf2, hn2⟩ := h2
  obtain ⟨A0, k0, rfl, -⟩ := hA0.form
  obtain ⟨A1, k1, rfl, -⟩ := hA1.form
  obtain ⟨A2, k2, rfl, -⟩ := hA2.form
  obtain ⟨M, hM, hx0, hx1, hx2, hMs, hMb⟩ := three_boxes w a b c (.slice A0 a.args.length k0) (.slice A1 b.args.length k1) (.slice A2 c.args.length k2) 24
  have hup : ∀ {W : World} {ls : List Ty} {v : Value}, Below M.heap.size M W → IsA w (Old w) ls v → IsA W (Old W) ls v := fun hW h => h.after (hMb.trans (hW.mono hMb.size))
  have HAL := Lib.hid (fun W (hW : W = M) => hW ▸ alive_at hT hMb)
  have HG0 := Lib.hid (fun W (hW : Below M.heap.size M W) => great_any a _ W hf0 (hup hW hA0))
  have HG1 := Lib.hid (fun W (hW : Below M.heap.size M W) => great_any b _ W hf1 (hup hW hA1))
  have HG2 := Lib.hid (fun W (hW : Below M.heap.size M W) => great_any c _ W hf2 (hup hW hA2))
  have HI01 := Lib.hid (fun W (hW : Below M.heap.size M W) => instance_any a b _ _ W hf0 hf1 hn0 (hup hW hA0) (hup hW hA1))
  have HI12 := Lib.hid (fun W (hW : Below M.heap.size M W) => instance_any b c _ _ W hf1 hf2 hn1 (hup hW hA1) (hup hW hA2))
  have HI02 := Lib.hid (fun W (hW : Below M.heap.size M W) => instance_any a c _ _ W hf0 hf2 hn0 (hup hW hA0) (hup hW hA2))
  have HI10 := Lib.hid (fun W (hW : Below M.heap.size M W) => instance_any b a _ _ W hf1 hf0 hn1 (hup hW hA1) (hup hW hA0))
  have HR0 := Lib.hid (fun W (hW : Below M.heap.size M W) => right_any a _ W hf0 (hup hW hA0))
  have HR1 := Lib.hid (fun W (hW : Below M.heap.size M W) => right_any b _ W hf1 (hup hW hA1))
  have HC0 := Lib.hid (fun W (hW : Below M.heap.size M W) => close_any a _ W hf0 hn0 (hup hW hA0))
  have HC1 := Lib.hid (fun W (hW : Below M.heap.size M W) => close_any b _ W hf1 hn1 (hup hW hA1))
  unfold ClosePost at HC0 HC1
  unfold tv at *
  have HX := Lib.hid (fun W (hW : Below M.heap.size M W) => And.intro (box_at hx0 (by omega) hW) (And.intro (box_at hx1 (by omega) hW) (box_at hx2 (by omega) hW)))
  have HM := Lib.hid hM
  have HMb := Lib.hid hMb
  have HMs := Lib.hid hMs
  have HTR := Lib.hid (fun h1 h2 => @inst_trans nameB a b c h1 h2)
  have HNI := Lib.hid (show ¬ (rightF nameB a = true ∧ rightF nameB b = true) → instF nameB a b = false from fun h => by
    cases hi : instF nameB a b with
    | false => rfl
    | true => exact absurd ⟨((inst_iff _ _ _).1 hi).1, ((inst_iff _ _ _).1 hi).2.1⟩ h)
  have HCS := Lib.hid (fun (h1 : rightF nameB a = true) h2 => @close_same nameB a b h1 h2)
  have HFC := Lib.hid (fun h => fit_close hf0 h)
  obtain ⟨ga, hga⟩ : ∃ g, g = greatF a := ⟨_, rfl⟩
  obtain ⟨gb, hgb⟩ : ∃ g, g = greatF b := ⟨_, rfl⟩
  obtain ⟨gc, hgc⟩ : ∃ g, g = greatF c := ⟨_, rfl⟩
  obtain ⟨i01, hi01⟩ : ∃ g, g = instF nameB a b := ⟨_, rfl⟩
  obtain ⟨i12, hi12⟩ : ∃ g, g = instF nameB b c := ⟨_, rfl⟩
  obtain ⟨i02, hi02⟩ : ∃ g, g = instF nameB a c := ⟨_, rfl⟩
  obtain ⟨i10, hi10⟩ : ∃ g, g = instF nameB b a := ⟨_, rfl⟩
  obtain ⟨r0, hr0⟩ : ∃ g, g = rightF nameB a := ⟨_, rfl⟩
  obtain ⟨r1, hr1⟩ : ∃ g, g = rightF nameB b := ⟨_, rfl⟩
  have HRR := Lib.hid hr0
  rw [← hga] at HG0
  rw [← hgb] at HG1
  rw [← hgc] at HG2
  rw [← hi01] at HI01 HNI HCS
  rw [← hi12] at HI12
  rw [← hi02] at HI02
  rw [← hi10] at HI10 HCS
  rw [← hr0] at HR0 HC0 HNI HCS
  rw [← hr1] at HR1 HC1 HNI HCS
  rw [← hi01, ← hi12, ← hi02] at HTR
  clear hga hgb hgc hi01 hi12 hi02 hi10 hr0 hr1 hA0 hA1 hA2 hf0 hf1 hf2 hn0 hn1 hn2 hx0 hx1 hx2 hM hMb hMs hup hT
  go_enter Tryd.func6, Tryd.ntmps6
  go_wp2_with fail
  refine (HAL.out _ HM.out.symm).mono ?_
  rintro e w1 ⟨rfl, hb⟩
  have HB1 := Lib.hid (show Below M.heap.size M w1 by first | exact hb | (rw [HM.out]; exact hb) | (rw [← HM.out] at hb; exact hb))
  clear hb HAL
  obtain ⟨⟨x0, x1, x2, x3⟩, ⟨y0, y1, y2, y3⟩, z0, z1, z2, z3⟩ := HX.out w1 HB1.out
  go_wp2_with fail
  refine (HG0.out w1 HB1.out).mono ?_
  rintro e w2 ⟨rfl, hb⟩
  have HB2 := Lib.hid (HB1.out.trans (hb.mono HB1.out.size))
  clear hb
  obtain ⟨⟨x0, x1, x2, x3⟩, ⟨y0, y1, y2, y3⟩, z0, z1, z2, z3⟩ := HX.out w2 HB2.out
  cases ga
  case true =>
    go_wp2
    go_ret
    exact ⟨rfl, HMb.out.trans (HB2.out.mono HMb.out.size)⟩
  go_wp2_with fail
  refine (HG1.out w2 HB2.out).mono ?_
  rintro e w3 ⟨rfl, hb⟩
  have HB3 := Lib.hid (HB2.out.trans (hb.mono HB2.out.size))
  clear hb
  obtain ⟨⟨x0, x1, x2, x3⟩, ⟨y0, y1, y2, y3⟩, z0, z1, z2, z3⟩ := HX.out w3 HB3.out
  cases gb
  case true =>
    go_wp2
    go_ret
    exact ⟨rfl, HMb.out.trans (HB3.out.mono HMb.out.size)⟩
  go_wp2_with fail
  refine (HG2.out w3 HB3.out).mono ?_
  rintro e w4 ⟨rfl, hb⟩
  have HB4 := Lib.hid (HB3.out.trans (hb.mono HB3.out.size))
  clear hb
  obtain ⟨⟨x0, x1, x2, x3⟩, ⟨y0, y1, y2, y3⟩, z0, z1, z2, z3⟩ := HX.out w4 HB4.out
  cases gc
  case true =>
    go_wp2
    go_ret
    exact ⟨rfl, HMb.out.trans (HB4.out.mono HMb.out.size)⟩
  go_upto_region 5 with fail
  go_cut [36] from 23 to 36 (fun bv wx => bv = .bool false ∧ RowKit.Hid (Below M.heap.size M wx))
  case first =>
    go_wp2_with fail
    refine (HI01.out w4 HB4.out).mono ?_
    rintro e w5 ⟨rfl, hb⟩
    have HB5 := Lib.hid (HB4.out.trans (hb.mono HB4.out.size))
    clear hb
    obtain ⟨⟨x0, x1, x2, x3⟩, ⟨y0, y1, y2, y3⟩, z0, z1, z2, z3⟩ := HX.out w5 HB5.out
    cases i01
    case false =>
      go_wp2
      go_meet
      exact ⟨rfl, Lib.hid HB5.out⟩
    go_wp2_with fail
    refine (HI12.out w5 HB5.out).mono ?_
    rintro e w6 ⟨rfl, hb⟩
    have HB6 := Lib.hid (HB5.out.trans (hb.mono HB5.out.size))
    clear hb
    obtain ⟨⟨x0, x1, x2, x3⟩, ⟨y0, y1, y2, y3⟩, z0, z1, z2, z3⟩ := HX.out w6 HB6.out
    cases i12
    case false =>
      go_wp2
      go_meet
      exact ⟨rfl, Lib.hid HB6.out⟩
    have hi := HTR.out (by trivial) (by trivial)
    subst hi
    go_wp2_with fail
    refine (HI02.out w6 HB6.out).mono ?_
    rintro e w7 ⟨rfl, hb⟩
    have HB7 := Lib.hid (HB6.out.trans (hb.mono HB6.out.size))
    clear hb
    obtain ⟨⟨x0, x1, x2, x3⟩, ⟨y0, y1, y2, y3⟩, z0, z1, z2, z3⟩ := HX.out w7 HB7.out
    go_wp2
    go_meet
    exact ⟨rfl, Lib.hid HB7.out⟩
  case rest =>
    obtain ⟨rfl, HB5⟩ := hcut
    obtain ⟨⟨x0, x1, x2, x3⟩, ⟨y0, y1, y2, y3⟩, z0, z1, z2, z3⟩ := HX.out wc HB5.out
    go_wp2_with fail
    refine (HR0.out wc HB5.out).mono ?_
    rintro e w6 ⟨rfl, hb⟩
    have HB6 := Lib.hid (HB5.out.trans (hb.mono HB5.out.size))
    clear hb
    obtain ⟨⟨x0, x1, x2, x3⟩, ⟨y0, y1, y2, y3⟩, z0, z1, z2, z3⟩ := HX.out w6 HB6.out
    cases r0
    case false =>
      have hi := HNI.out (by simp)
      subst hi
      go_wp2_with fail
      refine (HI01.out w6 HB6.out).mono ?_
      rintro e w7 ⟨rfl, hb⟩
      have HB7 := Lib.hid (HB6.out.trans (hb.mono HB6.out.size))
      clear hb
      obtain ⟨⟨x0, x1, x2, x3⟩, ⟨y0, y1, y2, y3⟩, z0, z1, z2, z3⟩ := HX.out w7 HB7.out
      go_wp2
      go_ret
      exact ⟨rfl, HMb.out.trans (HB7.out.mono HMb.out.size)⟩
    go_wp2_with fail
    refine (HR1.out w6 HB6.out).mono ?_
    rintro e w7 ⟨rfl, hb⟩
    have HB7 := Lib.hid (HB6.out.trans (hb.mono HB6.out.size))
    clear hb
    obtain ⟨⟨x0, x1, x2, x3⟩, ⟨y0, y1, y2, y3⟩, z0, z1, z2, z3⟩ := HX.out w7 HB7.out
    cases r1
    case false =>
      have hi := HNI.out (by simp)
      subst hi
      go_wp2_with fail
      refine (HI01.out w7 HB7.out).mono ?_
      rintro e w8 ⟨rfl, hb⟩
      have HB8 := Lib.hid (HB7.out.trans (hb.mono HB7.out.size))
      clear hb
      obtain ⟨⟨x0, x1, x2, x3⟩, ⟨y0, y1, y2, y3⟩, z0, z1, z2, z3⟩ := HX.out w8 HB8.out
      go_wp2
      go_ret
      exact ⟨rfl, HMb.out.trans (HB8.out.mono HMb.out.size)⟩
    go_wp2_with fail
    refine (HC0.out w7 HB7.out).mono ?_
    rintro e w8 ⟨hx, hb⟩
    try simp only [if_true] at hx
    obtain ⟨Ax, cx, rfl, hix⟩ := hx
    have HB8 := Lib.hid (HB7.out.trans (hb.mono HB7.out.size))
    obtain ⟨W8, hW8, hbx8, hs8, hb8⟩ := one_box w8 (closeF a) (.slice Ax (closeF a).args.length cx) 24
    have HBX8 := Lib.hid (HB8.out.trans (hb8.mono HB8.out.size))
    have HIX := Lib.hid ((hix.out.new).after hb8)
    have HW8 := Lib.hid hW8
    have HS8 := Lib.hid hs8
    have HBX := Lib.hid hbx8
    obtain ⟨⟨x0, x1, x2, x3⟩, ⟨y0, y1, y2, y3⟩, z0, z1, z2, z3⟩ := HX.out w8 HB8.out
    obtain ⟨hz0, hz1, hz2⟩ : w.heap.size < w8.heap.size ∧ w.heap.size + 1 < w8.heap.size ∧ w.heap.size + 2 < w8.heap.size := by have := HMs.out; have := HB8.out.size; omega
    clear hb hix hW8 hbx8 hs8 hb8
    go_wp2_with fail
    rw [← HW8.out]
    refine (HC1.out W8 HBX8.out).mono ?_
    rintro e w9 ⟨hy, hb⟩
    try simp only [if_true] at hy
    obtain ⟨Ay, cy, rfl, hiy⟩ := hy
    have HB9 := Lib.hid (HBX8.out.trans (hb.mono HBX8.out.size))
    have hbX9 := HBX.out.keep hb (by have := HS8.out; omega)
    obtain ⟨W9, hW9, hbx9, hs9, hb9⟩ := one_box w9 (closeF b) (.slice Ay (closeF b).args.length cy) 24
    have HIX9 := Lib.hid ((HIX.out.after hb).after hb9)
    have HIY9 := Lib.hid ((hiy.out.new).after hb9)
    have HBX9 := Lib.hid (HB9.out.trans (hb9.mono HB9.out.size))
    have hs8 := hb.size
    have hs7 := HS8.out
    obtain ⟨hz3, hz4⟩ : w8.heap.size < W9.heap.size ∧ w9.heap.size < W9.heap.size := by omega
    have hbXX := hbX9.keep hb9 (by omega)
    have HZ := Lib.hid (show ∀ W, RowKit.Hid (Below W9.heap.size W9 W) → W.cell? ⟨w8.heap.size, 0, none⟩ = some (.int .i64 (closeF a).kind) ∧ W.cell? ⟨w8.heap.size, 1, none⟩ = some (.int .i64 (closeF a).num) ∧ W.cell? ⟨w8.heap.size, 2, none⟩ = some (.string (closeF a).name) ∧ W.cell? ⟨w8.heap.size, 3, none⟩ = some (.slice Ax (closeF a).args.length cx) ∧ W.cell? ⟨w9.heap.size, 0, none⟩ = some (.int .i64 (closeF b).kind) ∧ W.cell? ⟨w9.heap.size, 1, none⟩ = some (.int .i64 (closeF b).num) ∧ W.cell? ⟨w9.heap.size, 2, none⟩ = some (.string (closeF b).name) ∧ W.cell? ⟨w9.heap.size, 3, none⟩ = some (.slice Ay (closeF b).args.length cy) ∧ W.cell? ⟨w.heap.size, 0, none⟩ = some (.int .i64 a.kind) ∧ W.cell? ⟨w.heap.size, 1, none⟩ = some (.int .i64 a.num) ∧ W.cell? ⟨w.heap.size, 2, none⟩ = some (.string a.name) ∧ W.cell? ⟨w.heap.size, 3, none⟩ = some (.slice A0 a.args.length k0) ∧ W.cell? ⟨w.heap.size + 1, 0, none⟩ = some (.int .i64 b.kind) ∧ W.cell? ⟨w.heap.size + 1, 1, none⟩ = some (.int .i64 b.num) ∧ W.cell? ⟨w.heap.size + 1, 2, none⟩ = some (.string b.name) ∧ W.cell? ⟨w.heap.size + 1, 3, none⟩ = some (.slice A1 b.args.length k1) ∧ RowKit.Hid (Below W9.heap.size W9 W) from fun W hW => by
      obtain ⟨p0, p1, p2, p3⟩ := box_at hbXX hz3 hW.out
      obtain ⟨q0, q1, q2, q3⟩ := box_at hbx9 hz4 hW.out
      obtain ⟨⟨x0, x1, x2, x3⟩, ⟨y0, y1, y2, y3⟩, -⟩ := HX.out W (HBX9.out.trans (hW.out.mono HBX9.out.size))
      exact ⟨p0, p1, p2, p3, q0, q1, q2, q3, x0, x1, x2, x3, y0, y1, y2, y3, hW⟩)
    have HSM := Lib.hid (fun W (hW : RowKit.Hid (Below W9.heap.size W9 W)) => show Calls Tryd.prog 13 #[tv (closeF a) (.slice Ax (closeF a).args.length cx), tv (closeF b) (.slice Ay (closeF b).args.length cy)] W fun e w' => e = .returned (.bool (sameF (closeF a) (closeF b))) ∧ RowKit.Hid (Below W.heap.size W w') from
      (same_any (closeF a).wt (closeF a) (closeF b) _ _ W (Nat.le_refl _) (HFC.out HRR.out.symm) (HIX9.out.after hW.out) (HIY9.out.after hW.out)).mono fun e w' h => ⟨h.1, Lib.hid h.2⟩)
    unfold tv at HSM
    have HJ1 := Lib.hid (fun W (hW : RowKit.Hid (Below W9.heap.size W9 W)) => (HI01.out W (HBX9.out.trans (hW.out.mono HBX9.out.size))).mono fun e w' h => show e = .returned (.bool i01) ∧ RowKit.Hid (Below W.heap.size W w') from ⟨h.1, Lib.hid h.2⟩)
    have HJ2 := Lib.hid (fun W (hW : RowKit.Hid (Below W9.heap.size W9 W)) => (HI10.out W (HBX9.out.trans (hW.out.mono HBX9.out.size))).mono fun e w' h => show e = .returned (.bool i10) ∧ RowKit.Hid (Below W.heap.size W w') from ⟨h.1, Lib.hid h.2⟩)
    have hcs := HCS.out (by trivial) (by trivial)
    have hsd : sameF (closeF a) (closeF b) = (i01 && i10) := by
      rw [same_decide, Bool.eq_iff_iff, decide_eq_true_iff, hcs, Bool.and_eq_true]
    rw [hsd] at HSM
    have hS0 : RowKit.Hid (Below W9.heap.size W9 W9.drew) := Lib.hid (Below.refl _ _).drew
    have HW9 := Lib.hid hW9
    clear hcs hsd hb hb9 hW9 hbx9 hs9 hbX9 hbXX hiy hs8 hs7 HB1 HB2 HB3 HB4 HB5 HB6 HB7 HB8 HG0 HG1 HG2 HR0 HR1 HC0 HC1 HI12 HI02 HI01 HI10
    obtain ⟨⟨x0, x1, x2, x3⟩, ⟨y0, y1, y2, y3⟩, z0, z1, z2, z3⟩ := HX.out w9 HB9.out
    go_upto_region 13 with fail
    rw [← HW9.out]
    cases i01
    case true =>
      cases i10
      all_goals
        go_region_held3 (fun W => W.cell? ⟨w8.heap.size, 0, none⟩ = some (.int .i64 (closeF a).kind) ∧ W.cell? ⟨w8.heap.size, 1, none⟩ = some (.int .i64 (closeF a).num) ∧ W.cell? ⟨w8.heap.size, 2, none⟩ = some (.string (closeF a).name) ∧ W.cell? ⟨w8.heap.size, 3, none⟩ = some (.slice Ax (closeF a).args.length cx) ∧ W.cell? ⟨w9.heap.size, 0, none⟩ = some (.int .i64 (closeF b).kind) ∧ W.cell? ⟨w9.heap.size, 1, none⟩ = some (.int .i64 (closeF b).num) ∧ W.cell? ⟨w9.heap.size, 2, none⟩ = some (.string (closeF b).name) ∧ W.cell? ⟨w9.heap.size, 3, none⟩ = some (.slice Ay (closeF b).args.length cy) ∧ W.cell? ⟨w.heap.size, 0, none⟩ = some (.int .i64 a.kind) ∧ W.cell? ⟨w.heap.size, 1, none⟩ = some (.int .i64 a.num) ∧ W.cell? ⟨w.heap.size, 2, none⟩ = some (.string a.name) ∧ W.cell? ⟨w.heap.size, 3, none⟩ = some (.slice A0 a.args.length k0) ∧ W.cell? ⟨w.heap.size + 1, 0, none⟩ = some (.int .i64 b.kind) ∧ W.cell? ⟨w.heap.size + 1, 1, none⟩ = some (.int .i64 b.num) ∧ W.cell? ⟨w.heap.size + 1, 2, none⟩ = some (.string b.name) ∧ W.cell? ⟨w.heap.size + 1, 3, none⟩ = some (.slice A1 b.args.length k1) ∧ RowKit.Hid (Below W9.heap.size W9 W)) (first | exact HZ.out _ hS0 | exact HZ.out _ ‹RowKit.Hid (Below W9.heap.size W9 _)› | exact HZ.out _ (keepW ‹RowKit.Hid (Below _ _ _)› ‹RowKit.Hid (Below W9.heap.size W9 _)›)) (first | (go_at_call 13; with_reducible (refine (HSM.out _ ‹_›).mono ?_); rintro e wn ⟨rfl, hbn⟩; have hbk := keepW hbn ‹_›) | (go_at_call 11; with_reducible (refine (HJ1.out _ ‹_›).mono ?_); rintro e wn ⟨rfl, hbn⟩; have hbk := keepW hbn ‹_›) | (go_at_call 11; with_reducible (refine (HJ2.out _ ‹_›).mono ?_); rintro e wn ⟨rfl, hbn⟩; have hbk := keepW hbn ‹_›))
      all_goals
        go_wp2
        go_ret
        exact ⟨rfl, HMb.out.trans ((HBX9.out.trans (RowKit.Hid.out ‹RowKit.Hid (Below W9.heap.size W9 _)› |>.mono HBX9.out.size)).mono HMb.out.size)⟩
    case false =>
      rw [Bool.false_and] at HSM
      refine wp_region_held_drew (S := fun W => W.cell? ⟨w8.heap.size, 0, none⟩ = some (.int .i64 (closeF a).kind) ∧ W.cell? ⟨w8.heap.size, 1, none⟩ = some (.int .i64 (closeF a).num) ∧ W.cell? ⟨w8.heap.size, 2, none⟩ = some (.string (closeF a).name) ∧ W.cell? ⟨w8.heap.size, 3, none⟩ = some (.slice Ax (closeF a).args.length cx) ∧ W.cell? ⟨w9.heap.size, 0, none⟩ = some (.int .i64 (closeF b).kind) ∧ W.cell? ⟨w9.heap.size, 1, none⟩ = some (.int .i64 (closeF b).num) ∧ W.cell? ⟨w9.heap.size, 2, none⟩ = some (.string (closeF b).name) ∧ W.cell? ⟨w9.heap.size, 3, none⟩ = some (.slice Ay (closeF b).args.length cy) ∧ W.cell? ⟨w.heap.size, 0, none⟩ = some (.int .i64 a.kind) ∧ W.cell? ⟨w.heap.size, 1, none⟩ = some (.int .i64 a.num) ∧ W.cell? ⟨w.heap.size, 2, none⟩ = some (.string a.name) ∧ W.cell? ⟨w.heap.size, 3, none⟩ = some (.slice A0 a.args.length k0) ∧ W.cell? ⟨w.heap.size + 1, 0, none⟩ = some (.int .i64 b.kind) ∧ W.cell? ⟨w.heap.size + 1, 1, none⟩ = some (.int .i64 b.num) ∧ W.cell? ⟨w.heap.size + 1, 2, none⟩ = some (.string b.name) ∧ W.cell? ⟨w.heap.size + 1, 3, none⟩ = some (.slice A1 b.args.length k1) ∧ RowKit.Hid (Below W9.heap.size W9 W)) (by kernel_rfl) (HZ.out _ hS0) (fun H0 => ?_)
      refine take_at (i := 0) (d := some 65) (v := ?_) rfl rfl (by kernel_rfl) (by kernel_rfl) (by kernel_rfl) (fun _ _ _ h => h) (Or.inl ⟨by rfl, ?_⟩) (by assumption) ?_
      rotate_left
      · (intro w hSw; (try dsimp only at hSw); go_simp; try with_reducible rfl)
      try simp only [Act.put, List.setIfInBounds_toArray, List.set_cons_zero, List.set_cons_succ]
      refine take_at (i := 1) (d := some 66) (v := ?_) rfl rfl (by kernel_rfl) (by kernel_rfl) (by kernel_rfl) (fun _ _ _ h => h) (Or.inl ⟨by rfl, ?_⟩) (by assumption) ?_
      rotate_left
      · (intro w hSw; (try dsimp only at hSw); go_simp; try with_reducible rfl)
      try simp only [Act.put, List.setIfInBounds_toArray, List.set_cons_zero, List.set_cons_succ]
      refine take_at (i := 3) (d := some 68) (v := ?_) rfl rfl (by kernel_rfl) (by kernel_rfl) (by kernel_rfl) (fun _ _ _ h => h) (Or.inl ⟨by rfl, ?_⟩) (by assumption) ?_
      rotate_left
      · (intro w hSw; (try dsimp only at hSw); go_simp; try with_reducible rfl)
      try simp only [Act.put, List.setIfInBounds_toArray, List.set_cons_zero, List.set_cons_succ]
      refine take_at (i := 4) (d := some 69) (v := ?_) rfl rfl (by kernel_rfl) (by kernel_rfl) (by kernel_rfl) (fun _ _ _ h => h) (Or.inl ⟨by rfl, ?_⟩) (by assumption) ?_
      rotate_left
      · (intro w hSw; (try dsimp only at hSw); go_simp; try with_reducible rfl)
      try simp only [Act.put, List.setIfInBounds_toArray, List.set_cons_zero, List.set_cons_succ]
      refine wpAnyH_ready (rs := [2]) (by kernel_rfl) (by simp) ?_
      refine AllReadyH.cons (o := { dst := some 67, op := Op.call { callee := Callee.value (Operand.func 13), args := #[Operand.tmp 65, Operand.tmp 66], argTypes := #[24, 24] }, type := 4, pos := "law.go:147", after := #[{ on := 0, ground := Ground.data }, { on := 1, ground := Ground.data }], guard := none }) rfl (fun K hK => ?_) AllReadyH.nil
      go_simp
      with_reducible refine (HSM.out _ hS0).mono ?_
      rintro e wn1 ⟨rfl, hbn⟩
      have hS1 := keepW hbn hS0
      clear hbn
      go_wp2_with fail
      refine hK.out _ _ (HZ.out _ hS1) (fun H1 => ?_)
      clear hK K
      try simp only [Act.put, List.setIfInBounds_toArray, List.set_cons_zero, List.set_cons_succ]
      refine wpAnyH_ready (rs := [5]) (by kernel_rfl) (by simp) ?_
      refine AllReadyH.cons (o := { dst := some 70, op := Op.call { callee := Callee.value (Operand.func 11), args := #[Operand.tmp 68, Operand.tmp 69], argTypes := #[24, 24] }, type := 4, pos := "law.go:147", after := #[{ on := 3, ground := Ground.data }, { on := 4, ground := Ground.data }, { on := 2, ground := Ground.chain }], guard := none }) rfl (fun K hK => ?_) AllReadyH.nil
      go_simp
      with_reducible refine (HJ1.out _ hS1).mono ?_
      rintro e wn2 ⟨rfl, hbn⟩
      have hS2 := keepW hbn hS1
      clear hbn
      go_wp2_with fail
      refine hK.out _ _ (HZ.out _ hS2) (fun H2 => ?_)
      clear hK K
      try simp only [Act.put, List.setIfInBounds_toArray, List.set_cons_zero, List.set_cons_succ]
      refine take_at (i := 6) (d := some 71) (v := ?_) rfl rfl (by kernel_rfl) (by kernel_rfl) (by kernel_rfl) (fun _ _ _ h => h) (Or.inl ⟨by rfl, ?_⟩) (by assumption) ?_
      rotate_left
      · (intro w hSw; (try dsimp only at hSw); go_simp; try with_reducible rfl)
      try simp only [Act.put, List.setIfInBounds_toArray, List.set_cons_zero, List.set_cons_succ]
      refine take_at (i := 7) (d := some 72) (v := undef) rfl rfl (by kernel_rfl) (by kernel_rfl) (by kernel_rfl) (fun _ _ _ h => h) (Or.inr ⟨by rfl, rfl⟩) (by assumption) ?_
      try simp only [Act.put, List.setIfInBounds_toArray, List.set_cons_zero, List.set_cons_succ]
      refine take_at (i := 8) (d := some 73) (v := undef) rfl rfl (by kernel_rfl) (by kernel_rfl) (by kernel_rfl) (fun _ _ _ h => h) (Or.inr ⟨by rfl, rfl⟩) (by assumption) ?_
      try simp only [Act.put, List.setIfInBounds_toArray, List.set_cons_zero, List.set_cons_succ]
      refine take_at (i := 9) (d := some 74) (v := undef) rfl rfl (by kernel_rfl) (by kernel_rfl) (by kernel_rfl) (fun _ _ _ h => h) (Or.inr ⟨by rfl, rfl⟩) (by assumption) ?_
      try simp only [Act.put, List.setIfInBounds_toArray, List.set_cons_zero, List.set_cons_succ]
      refine take_at (i := 10) (d := some 75) (v := ?_) rfl rfl (by kernel_rfl) (by kernel_rfl) (by kernel_rfl) (fun _ _ _ h => h) (Or.inl ⟨by rfl, ?_⟩) (by assumption) ?_
      rotate_left
      · (intro w hSw; (try dsimp only at hSw); go_simp; try with_reducible rfl)
      try simp only [Act.put, List.setIfInBounds_toArray, List.set_cons_zero, List.set_cons_succ]
      refine take_at (i := 11) (d := some 76) (v := ?_) rfl rfl (by kernel_rfl) (by kernel_rfl) (by kernel_rfl) (fun _ _ _ h => h) (Or.inl ⟨by rfl, ?_⟩) (by assumption) ?_
      rotate_left
      · (intro w hSw; (try dsimp only at hSw); go_simp; try with_reducible rfl)
      try simp only [Act.put, List.setIfInBounds_toArray, List.set_cons_zero, List.set_cons_succ]
      refine take_at (i := 12) (d := some 6) (v := ?_) rfl rfl (by kernel_rfl) (by kernel_rfl) (by kernel_rfl) (fun _ _ _ h => h) (Or.inl ⟨by rfl, ?_⟩) (by assumption) ?_
      rotate_left
      · (intro w hSw; (try dsimp only at hSw); go_simp; try with_reducible rfl)
      try simp only [Act.put, List.setIfInBounds_toArray, List.set_cons_zero, List.set_cons_succ]
      refine wpAnyH_done (by kernel_rfl) ?_ _
      go_wp2
      go_ret
      exact ⟨rfl, HMb.out.trans ((HBX9.out.trans (hS2.out.mono HBX9.out.size)).mono HMb.out.size)⟩
end Go.Proofs.YtmpmibebkflaiaaDoor
