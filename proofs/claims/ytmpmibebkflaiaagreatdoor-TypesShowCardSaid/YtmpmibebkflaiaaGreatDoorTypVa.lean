/- Rows of ints that grow; the contract of the reference's Vars. -/
import Derived.Test.YtmpmibebkflaiaaGreatDoorTypBx
namespace Go.Proofs.YtmpmibebkflaiaaGreatDoor
open Go.RowKit Go.Lib Go.Shelf Go.Sort Tp
set_option maxRecDepth 100000
set_option linter.unusedVariables false
set_option linter.unusedSectionVars false

/-- a row of ints of a call's own. -/
def IRow (B : Nat) (l : List Int) (v : Value) (w : World) : Prop := w.ownsRow B 3 1 v l.length (intsC l)
theorem infoI64 : (Tryz.prog.info? 3).map (fun i => (i.zero, i.size, i.bytes)) = some (some (.int .i64 0), 1, 8) := by kernel_rfl
theorem IRow.alloc {B : Nat} {l : List Int} {v : Value} {w : World} (h : IRow B l v w) (o : Obj) : IRow B l v (w.alloc o) := World.ownsRow.alloc h o
theorem IRow.below {B : Nat} {l : List Int} {v v' : Value} {w w' : World} (h : IRow B l v w) (k : Wr w v w' v') (hB : B ≤ w.heap.size) : Below B w w' :=
  (Below.refl B w).grown k.1 hB (fun j e => (h.lt j e).1)
theorem IRow.form {B : Nat} {l : List Int} {v : Value} {w : World} (h : IRow B l v w) : ∃ A c, v = .slice A l.length c := by
  rcases h.2 with ⟨rfl, h0⟩ | ⟨g, cap, cur, rfl, -⟩
  · exact ⟨none, 0, by rw [show l.length = 0 from h0]⟩
  · exact ⟨_, _, rfl⟩
theorem IRow.ne {B : Nat} {l : List Int} {v : Value} {w : World} (h : IRow B l v w) {b : Nat} (hb : w.heap.size ≤ b) : v.ownBlock ≠ some b := fun e => by
  have := (h.lt b e).2
  omega
theorem IRow.keep {B : Nat} {l : List Int} {v : Value} {w w' : World} (h : IRow B l v w) (hb : Below w.heap.size w w') : IRow B l v w' := own_same h fun g hg => hb.block g (h.lt g hg).2
theorem intsC_app (l m : List Int) : intsC (l ++ m) = intsC l ++ intsC m := by simp [intsC]
theorem intsC_plain (l : List Int) : ∀ u ∈ intsC l, u.oneCell' = true := by
  intro u hu
  simp only [intsC, List.mem_map] at hu
  obtain ⟨_, _, rfl⟩ := hu
  rfl
/-- an element of a row of ints. -/
theorem IRow.at {B : Nat} {l : List Int} {w : World} {A : Option Addr} {n c : Nat} (h : IRow B l (.slice A n c) w) {k : Nat} {x : Int} (hx : l[k]? = some x) : ∃ g, A = some ⟨g, 0, none⟩ ∧ B ≤ g ∧ g < w.heap.size ∧ n = l.length ∧ w.cell? ⟨g, k, none⟩ = some (.int .i64 x) := by
  have hk : k < l.length := (List.getElem?_eq_some_iff.1 hx).1
  have h' := h
  rcases h'.2 with ⟨e, h0⟩ | ⟨g, cap, cur, e, hg, -⟩
  · have : l.length = 0 := h0
    omega
  · have e2 := e
    simp only [Value.slice.injEq] at e2
    obtain ⟨rfl, rfl, rfl⟩ := e2
    have h2 := h
    refine ⟨g, rfl, hg, (h.lt g rfl).2, rfl, ?_⟩
    have := World.ownsRow.cellAt h2 k (by rw [Nat.mul_one]; exact hk)
    rw [this]
    exact intsC_get hx
theorem run_append_int {w : World} (base : Nat) (ty : TypeId) (v : Value) (l : List Int) (hown : IRow base l v w) (ad : Addr) (c : Nat) (m : List Int) (hnews : ∀ j u, (intsC m)[j]? = some u → w.cell? (ad.add j) = some u) (hlim : l.length + m.length ≤ 17592186044416) (hbase : base ≤ w.heap.size) :
    ∃ v' w', (Builtin.append_ #[41, 41] ty #[v, .slice (some ad) m.length c]).run Tryz.prog w = .ok v' w' ∧ IRow base (l ++ m) v' w' ∧ Wr w v w' v' := by
  obtain ⟨i, hi, hz, h1, h2⟩ := info_parts infoI64
  obtain ⟨v', w', hr, ho, hg, -, hl⟩ := run_append_own_at (P := Tryz.prog) w base 41 ty 3 i _ 1 8 Tryz.underlying41 hi hz h1 h2 rfl (by decide) v l.length (intsC l) hown ad m.length c (intsC m) (by simp [intsC]) hnews (intsC_plain m) (by unfold maxLen; omega) (by omega) hbase
  refine ⟨v', w', hr, by unfold IRow; rw [List.length_append, intsC_app]; exact ho, hg, ?_⟩
  rcases hl with h | h
  · exact .inl h
  · exact .inr fun g hg' => by rw [h] at hg'; cases hg'; exact Nat.le_refl _
theorem wpList_append_int {w : World} {ops : Array Oper} {rest : List Oper} {o : Oper} {a : Act} {Q : Exit → Act → World → Prop} (hgd : o.guard = none) (s x : Operand) (ho : o.op = .call { callee := .builtin .append, args := #[s, x], argTypes := #[41, 41] })
    (base : Nat) (v : Value) (l : List Int) (hs : a.eval s = v) (hown : IRow base l v w) (ad : Addr) (n c : Nat) (m : List Int) (hx : a.eval x = .slice (some ad) n c) (hm : m.length = n) (hnews : ∀ j u, (intsC m)[j]? = some u → w.cell? (ad.add j) = some u) (hlim : l.length + n ≤ 17592186044416) (hbase : base ≤ w.heap.size)
    (h : ∀ v' w', IRow base (l ++ m) v' w' → Wr w v w' v' → wpList Tryz.prog ops Q rest (a.put o.dst v') w') : wpList Tryz.prog ops Q (o :: rest) a w := by
  subst hm
  refine wpList_plain hgd fun K hK => ?_
  obtain ⟨v', w', hr, h2, h3⟩ := run_append_int base o.type v l hown ad c m hnews hlim hbase
  unfold Oper.wp execOp
  simp only [ho, resolve, invoke, builtin, Sem.run_bind, Sem.run_pure, Result.andThen_ok, List.map_toArray, List.map_cons, List.map_nil, hs, hx, hr]
  exact hK _ _ (h v' w' h2 h3)
theorem news_int (W : World) (x : Int) (e : TypeId) (n : Nat) (hn : n = W.heap.size) : ∀ (j : Nat) (u : Value), (intsC [x])[j]? = some u → (W.alloc (.cells #[.int .i64 x] e)).cell? ((⟨n, 0, none⟩ : Addr).add j) = some u := by
  subst hn
  intro j u hj
  match j, hj with
  | 0, hj =>
    simp [intsC] at hj
    subst hj
    have h := heap_alloc_new W (.cells #[.int .i64 x] e)
    show (W.alloc (.cells #[.int .i64 x] e)).cell? ⟨W.heap.size, 0 + 0, none⟩ = _
    unfold World.cell?
    rw [h]
    rfl
/-- what Vars answers. -/
def VarsPost (B : Nat) (l : List Int) (v : Value) (w : World) (e : Ending) (w' : World) : Prop := ∃ v', e = .returned v' ∧ RowKit.Hid (IRow B l v' w') ∧ RowKit.Hid (Wr w v w' v')
theorem foldl_vars_len (l : List Ty) : ∀ met : List Int, (∀ x ∈ l, okT nameB x) → (l.foldl vars met).length ≤ met.length + Ty.wts l := by
  induction l with
  | nil => intro met _; simp [Ty.wts]
  | cons x l ih =>
    intro met h
    rw [List.foldl_cons, Ty.wts]
    have h1 := vars_len x (h x (by simp)) met
    have h2 := ih (vars met x) (fun y hy => h y (by simp [hy]))
    omega
theorem foldl_take_len (t : Ty) (h : okT nameB t) (met : List Int) (k : Nat) : ((t.args.take k).foldl vars met).length ≤ met.length + t.wt := by
  have h1 := foldl_vars_len (t.args.take k) met (fun x hx => h.arg (List.mem_of_mem_take hx))
  have h2 : Ty.wts (t.args.take k) ≤ Ty.wts t.args := by
    have : ∀ (l : List Ty) k, Ty.wts (l.take k) ≤ Ty.wts l := by
      intro l
      induction l with
      | nil => intro k; simp
      | cons a l ih =>
        intro k
        cases k with
        | zero => simp [Ty.wts]
        | succ k => rw [List.take_succ_cons, Ty.wts, Ty.wts]; have := ih k; omega
    exact this _ _
  have := Ty.wt_eq t
  omega
theorem Wr.drewN (w : World) (q : Nat) (v : Value) : Wr w v (w.drewN q) v := ⟨⟨rfl, rfl, rfl, Nat.le_refl _, fun _ _ _ => rfl⟩, .inl rfl⟩
theorem Wr.set {w w' : World} {v v' : Value} (h : Wr w v w' v') : Wr w v w' v' := h
/-- types whose blocks lie below those of a row. -/
theorem IsA.wr {B : Nat} {w w' : World} {v v' : Value} {l : List Int} {ls : List Ty} {s : Value} (h : IsA w (fun g => g < B) ls s) (hr : IRow B l v w) (hB : B ≤ w.heap.size) (k : Wr w v w' v') : IsA w' (fun g => g < B) ls s :=
  h.same fun g hg => (hr.below k hB).block g hg
set_option maxHeartbeats 2000000 in
theorem vars_any (n : Nat) : ∀ (t : Ty) (met : List Int) (v s : Value) (B : Nat) (w : World), t.wt ≤ n → fit t → okT nameB t → met.length + t.wt ≤ 1000000 → IRow B met v w → B ≤ w.heap.size → IsA w (fun g => g < B) t.args s →
    Calls Tryz.prog 20 #[v, tv t s] w (VarsPost B (vars met t) v w) := by
  induction n with
  | zero => intro t met v s B w hn; have := Ty.wt_eq t; omega
  | succ n ih =>
    intro t met v s B w hn hf hok hlen hr hB hA
    obtain ⟨A, c, rfl, hc, hop⟩ := hA.open
    obtain ⟨Av, cv, rfl⟩ := hr.form
    obtain ⟨M, hM, hbx, hMs, hMb⟩ := one_box w t (.slice A t.args.length c) 24
    have HR := Lib.hid hr
    have hrM : IRow B met (.slice Av met.length cv) M := by rw [hM]; exact hr.alloc _
    have HRM := Lib.hid hrM
    have HBX := Lib.hid hbx
    have hWM : Wr w (.slice Av met.length cv) M (.slice Av met.length cv) := by rw [hM]; exact Wr.alloc _ _ _
    have HWM := Lib.hid hWM
    have hsz := hf.self.2
    have HM := Lib.hid hM
    have HMs := Lib.hid hMs
    have hl1 : met.length ≤ 1000000 := by omega
    obtain ⟨L, hL⟩ : ∃ L, L = met.length := ⟨_, rfl⟩
    have HL := Lib.hid hL
    by_cases hk : t.kind = 1
    · have HVY := Lib.hid (fun h : met.contains t.num = true => show vars met t = met by rw [vars_eq, if_pos hk, if_pos h])
      have HVN := Lib.hid (fun h : met.contains t.num = false => show vars met t = met ++ [t.num] by rw [vars_eq, if_pos hk, h]; rfl)
      clear hA hop ih hbx hr hrM hWM hMb hM hMs hf hok hlen hn
      obtain ⟨kd, m, z, as1⟩ := t
      simp only [Ty.kind, Ty.num, Ty.name, Ty.args] at *
      subst hk
      simp only [tv, Ty.kind, Ty.num, Ty.name]
      rw [← hL] at hl1 HRM HR HWM ⊢
      clear hL
      go_enter Tryz.func20, Tryz.ntmps20
      go_wp2
      rw [← HM.out]
      obtain ⟨q0, q1, q2, q3⟩ := HBX.out
      simp only [Ty.kind, Ty.num, Ty.name] at q0 q1 q2 q3
      go_loopw [5] (fun i wr => ∃ k : Nat, k ≤ L ∧ i = .int .i64 k ∧ RowKit.Hid (∀ j, j < k → met[j]? ≠ some m) ∧ RowKit.Hid (∃ q, wr = M.drewN q)) (fun i _ => L - (RowKit.intOf i).toNat)
      case atStart => exact ⟨0, by omega, rfl, Lib.hid (fun j h => by omega), Lib.hid ⟨0, rfl⟩⟩
      case round =>
        obtain ⟨k, hk, rfl, HNO, HD⟩ := hrel
        obtain ⟨q, hq⟩ := HD.out
        by_cases hlt : k < L
        · obtain ⟨x, hx⟩ : ∃ x, met[k]? = some x := ⟨_, List.getElem?_eq_getElem (by have := HL.out; omega)⟩
          obtain ⟨g, rfl, hgB, hgs, -, hcx⟩ := HRM.out.at hx
          have hdd : ∀ p : Addr, wr.cell? p = M.cell? p := fun p => by
            rw [hq]
            rfl
          rw [← hdd] at hcx q0 q1 q2 q3
          have HDQ := Lib.hid hq
          have HXX := Lib.hid hx
          clear hdd hq hx
          by_cases hxn : x = m
          · have hb : (x == m) = true := by simp [hxn]
            have HY := Lib.hid hxn
            clear hxn
            go_wp2
            go_quiet (fail)
            go_wp2
            go_ret
            have hy : met.contains m = true := by
              rw [List.contains_iff_mem]
              exact List.mem_of_getElem? (by rw [HXX.out, HY.out])
            refine ⟨.slice (some ⟨g, 0, none⟩) L cv, rfl, Lib.hid ?_, Lib.hid ?_⟩
            · rw [HVY.out hy, HDQ.out]
              exact HRM.out
            · rw [HDQ.out]
              exact (HWM.out.trans (Wr.drewN _ _ _)).trans (Wr.drewN _ _ _)
          · have hb : (x == m) = false := by simp [hxn]
            have HY := Lib.hid hxn
            clear hxn
            go_wp2
            go_quiet (fail)
            go_wp2
            go_roundw
            case rel => exact ⟨k + 1, by omega, by go_num, Lib.hid (fun j hj => by
              rcases Nat.lt_or_ge j k with h | h
              · exact HNO.out j h
              · obtain rfl : j = k := by omega
                rw [HXX.out]
                simpa using HY.out), Lib.hid ⟨_, by rw [HDQ.out, World.drewN_drewN]⟩⟩
            case measure => simp [RowKit.intOf]; omega
        · have hkl : k = L := by omega
          have hnc : met.contains m = false := by
            rw [Bool.eq_false_iff, ne_eq, List.contains_iff_mem]
            intro hm
            obtain ⟨j, hj, hjm⟩ := List.getElem_of_mem hm
            exact HNO.out j (by have := HL.out; omega) (by rw [List.getElem?_eq_getElem hj, hjm])
          have HNC := Lib.hid hnc
          have hdd : ∀ p : Addr, wr.cell? p = M.cell? p := fun p => by
            rw [hq]
            rfl
          rw [← hdd] at q0 q1 q2 q3
          have HRW := Lib.hid (show IRow B met (.slice Av L cv) wr by rw [hq]; exact HRM.out)
          have HWW := Lib.hid (show Wr w (.slice Av L cv) wr (.slice Av L cv) by rw [hq]; exact HWM.out.trans (Wr.drewN _ _ _))
          have hsw : B ≤ wr.heap.size := by have := HWW.out.1.size; omega
          clear hdd hq hnc hkl
          go_wp2_with (at_builtin; refine wpList_append_int rfl _ _ rfl B _ met rfl (HRW.out.alloc _) ⟨_, 0, none⟩ 1 1 [m] rfl rfl (news_int wr m _ _ rfl) (by have := HL.out; omega) (by simp; omega) ?_; intro v1 w1 hr1 hw1; have HR1 := Lib.hid hr1; have HW1 := Lib.hid hw1; clear hr1 hw1)
          go_ret
          refine ⟨v1, rfl, Lib.hid ?_, Lib.hid (HWW.out.trans ((Wr.alloc _ _ _).trans HW1.out))⟩
          rw [HVN.out HNC.out]
          exact HR1.out
    · have hkb : (t.kind == 1) = false := by simp [hk]
      have HVF := Lib.hid (show vars met t = t.args.foldl vars met by rw [vars_eq, if_neg hk])
      have HOP := Lib.hid hop
      have HI := Lib.hid ih
      have HF := Lib.hid hf
      have HOK := Lib.hid hok
      have HN := Lib.hid hn
      have HLN := Lib.hid hlen
      have HA := Lib.hid hA
      obtain ⟨K, hK⟩ : ∃ K, K = t.args.length := ⟨_, rfl⟩
      have HK := Lib.hid hK
      have hvs : ∀ g, (Value.slice Av met.length cv).ownBlock = some g → g < w.heap.size := fun g h => (hr.lt g h).2
      have HVS := Lib.hid hvs
      clear hA hop ih hbx hr hrM hWM hMb hM hMs hf hok hlen hn hk hvs
      unfold tv
      rw [← hK] at hc hsz HOP HBX HM HA ⊢
      rw [← hL] at hl1 HRM HR HWM HVS ⊢
      clear hL hK
      go_enter Tryz.func20, Tryz.ntmps20
      go_wp2
      rw [← HM.out]
      go_loopw [0, 6] (fun vv i wr => ∃ (k : Nat) (A' : Option Addr) (n' c' : Nat), k ≤ K ∧ i = .int .i64 k ∧ vv = .slice A' n' c' ∧ RowKit.Hid (IRow B ((t.args.take k).foldl vars met) (.slice A' n' c') wr) ∧ RowKit.Hid (Wr M (.slice Av L cv) wr (.slice A' n' c')) ∧ RowKit.Hid (BoxT t (.slice A K c) w.heap.size wr)) (fun _ i _ => K - (RowKit.intOf i).toNat)
      case atStart => exact ⟨0, Av, L, cv, by omega, rfl, rfl, Lib.hid (by simpa using HRM.out), Lib.hid (Wr.refl _ _), HBX⟩
      case round =>
        obtain ⟨k, A', n', c', hk, rfl, rfl, HIR, HWR, HBW⟩ := hrel
        obtain ⟨q0, q1, q2, q3⟩ := HBW.out
        have hs1 := HMs.out
        have hs2 := HWR.out.1.size
        have hBl := HRM.out.below HWR.out (by omega)
        by_cases hlt : k < K
        · obtain ⟨g, o, rfl, hg, hel⟩ := HOP.out (by omega)
          obtain ⟨x, hx⟩ : ∃ x, t.args[k]? = some x := ⟨_, List.getElem?_eq_getElem (by have := HK.out; omega)⟩
          have hxm := List.mem_of_getElem? hx
          obtain ⟨sx, c0, c1, c2, c3, hax⟩ := hel k x hx
          have hBw : Below B w wr := by
            have h1 : Below B w M := by rw [HM.out]; exact (Below.refl _ _).alloc hB _
            exact h1.trans hBl
          have hcl : ∀ j, wr.cell? ⟨g, j, none⟩ = w.cell? ⟨g, j, none⟩ := fun j => hBw.cell (p := ⟨g, j, none⟩) hg
          rw [← hcl] at c0 c1 c2 c3
          obtain ⟨Ax, cx, rfl, hcx⟩ := hax.form
          have hax2 : IsA wr (fun g => g < B) x.args (.slice Ax x.args.length cx) := hax.same fun g hg => hBw.block g hg
          have hfl := foldl_take_len t HOK.out met k
          have hx1 := Ty.wt_lt hxm
          have HX := Lib.hid (take_snoc hx)
          have HC := Lib.hid (HI.out x ((t.args.take k).foldl vars met) (.slice A' n' c') _ B wr (by have := HN.out; omega) (HF.out.arg hxm) (HOK.out.arg hxm) (by
            have h1 := foldl_vars_len (t.args.take (k + 1)) met (fun y hy => HOK.out.arg (List.mem_of_mem_take hy))
            have h2 := foldl_vars_len (t.args.take k) met (fun y hy => HOK.out.arg (List.mem_of_mem_take hy))
            have h3 : ∀ l : List Ty, ∀ k x, l[k]? = some x → Ty.wts (l.take k) + x.wt ≤ Ty.wts l := by
              intro l
              induction l with
              | nil => intro k x h; simp at h
              | cons a l ih =>
                intro k x h
                cases k with
                | zero => simp at h; subst h; simp [Ty.wts]
                | succ k => rw [List.take_succ_cons, Ty.wts, Ty.wts]; have := ih k x (by simpa using h); omega
            have h4 := h3 t.args k x hx
            have h5 := Ty.wt_eq t
            have := HLN.out
            omega) HIR.out (by omega) hax2)
          unfold VarsPost tv at HC
          clear hx hxm hax hax2 hcl hel hfl hx1 hBl hBw hs1 hs2
          go_wp2_with (go_at_call 20; with_reducible (refine HC.out.mono ?_); rintro e w1 ⟨v1, rfl, HR1, HW1⟩; obtain ⟨A1, c1', rfl⟩ := HR1.out.form)
          go_roundw
          case rel => exact ⟨k + 1, A1, _, c1', by omega, by go_num, rfl, Lib.hid (by rw [HX.out, List.foldl_append]; exact HR1.out), Lib.hid (HWR.out.trans HW1.out), Lib.hid (by
            have hne : (Value.slice A' n' c').ownBlock ≠ some w.heap.size := fun e => by
              have h1 := HMs.out
              rcases HWR.out.2 with h2 | h2
              · have := HVS.out w.heap.size (h2 ▸ e); omega
              · have := h2 _ e; omega
            have hbl := HW1.out.1.block w.heap.size (by have h1 := HMs.out; have := HWR.out.1.size; omega) (fun e => hne e.symm)
            exact ⟨(World.cell?_of_block hbl).trans HBW.out.1, (World.cell?_of_block hbl).trans HBW.out.2.1, (World.cell?_of_block hbl).trans HBW.out.2.2.1, (World.cell?_of_block hbl).trans HBW.out.2.2.2⟩)⟩
          case measure => simp [RowKit.intOf]; omega
        · have hkK : k = K := by omega
          subst hkK
          clear hBl hs1 hs2
          go_wp2
          go_ret
          refine ⟨.slice A' n' c', rfl, Lib.hid ?_, Lib.hid (HWM.out.trans HWR.out)⟩
          have h := HIR.out
          rw [List.take_of_length_le (by have := HK.out; omega)] at h
          rw [HVF.out]
          exact h
theorem IRow.empty (w : World) : IRow w.heap.size [] (.slice (some ⟨w.heap.size, 0, none⟩) 0 0) (w.alloc (.cells #[] 3)) := World.ownsRow_lit w #[] 0 (Nat.le_refl _) (by unfold maxLen; omega) rfl
theorem box_zero (w : World) (e : TypeId) : ∃ M, M = w.alloc (.cells #[.int .i64 0, .int .i64 0, .string ⟨#[]⟩, .slice none 0 0] e) ∧
    BoxT (.mk 0 0 ⟨#[]⟩ []) (.slice none 0 0) w.heap.size M ∧ M.heap.size = w.heap.size + 1 ∧ Below w.heap.size w M := one_box w (.mk 0 0 ⟨#[]⟩ []) (.slice none 0 0) e
end Go.Proofs.YtmpmibebkflaiaaGreatDoor
