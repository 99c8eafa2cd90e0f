/- LexAgain answers true: the walk. -/
import Derived.Test.YtfeokaloedfejaaLexMunch
import Derived.Test.YtfeokaloedfejaaLexO
import Derived.Test.YtfeokaloedfejaaBytes
namespace Go.Proofs.Ytfeokaloedfejaa
open Go.RowKit Go.Lib
set_option maxRecDepth 100000
set_option linter.unusedVariables false

theorem Try.infoB : (Try.prog.info? 5).map (fun i => (i.zero, i.size, i.bytes)) = some (some (.int .u8 0), 1, 1) := by kernel_rfl
/-- what the loop that joins the words keeps. -/
def AgRel (l : List UInt8) (ts : List Lx.Tok) (w : World) (i : Nat) (v : Value) (wr : World) : Prop :=
  wr.ownsRow w.heap.size 5 1 v (Lx.joinB (Lx.pairs l (ts.take i))).length (bytesV (Lx.joinB (Lx.pairs l (ts.take i)))) ∧ Below w.heap.size w wr ∧
  (Lx.joinB (Lx.pairs l (ts.take i))).length ≤ i * 5001 ∧ ∀ t ∈ ts.take i, t.kind ≠ 7
theorem ag_step {l : List UInt8} {ts : List Lx.Tok} {w wr w1 : World} {i m : Nat} {v v' : Value} {t : Lx.Tok} {x : List UInt8} (h : AgRel l ts w i v wr) (ht : ts[i]? = some t) (h7 : t.kind ≠ 7) (hx : x = Lx.wordT l t ++ [32]) (hm : m = x.length) (hl : x.length ≤ 5001)
    (hown : w1.ownsRow w.heap.size 5 1 v' ((Lx.joinB (Lx.pairs l (ts.take i))).length + m) (bytesV (Lx.joinB (Lx.pairs l (ts.take i))) ++ bytesV x)) (hb : Below w.heap.size w w1) : AgRel l ts w (i + 1) v' w1 := by
  have e : Lx.joinB (Lx.pairs l (ts.take (i + 1))) = Lx.joinB (Lx.pairs l (ts.take i)) ++ x := by
    rw [List.take_add_one, ht, hx]
    simp only [Option.toList_some, Lx.pairs, List.map_append, List.map_cons, List.map_nil]
    exact Lx.join_snoc _ _ _
  refine ⟨?_, hb, ?_, ?_⟩
  · rw [e, ← bytesV_app, List.length_append, ← hm]; exact hown
  · rw [e, List.length_append, Nat.add_mul]
    have := h.2.2.1
    omega
  · intro u hu
    rw [List.take_add_one, ht] at hu
    simp only [Option.toList_some, List.mem_append, List.mem_singleton] at hu
    rcases hu with hu | rfl
    · exact h.2.2.2 u hu
    · exact h7

set_option maxHeartbeats 2000000 in
theorem lexAgain_walk (a0 : ByteArray) (w : World) (w0 : a0.size ≤ maxLen) : Calls Try.prog 6 #[.string a0] w (TruePost w) := by
  unfold maxLen at w0
  obtain ⟨i0, hi, hz0, hz1, hz2⟩ := info_parts Try.infoB
  by_cases hsz : a0.size ≤ 5000
  · obtain ⟨ts, hts⟩ : ∃ ts, ts = Lx.lexF a0.data.toList := ⟨_, rfl⟩
    go_enter Try.func6, Try.ntmps6
    go_wp2_with fail
    refine (alive_any _).mono ?_
    rintro e w1 ⟨rfl, hb1⟩
    go_wp2_with fail
    refine (lex_any _ (by omega) _).mono ?_
    rintro e w2 ⟨v, rfl, hown, hb2⟩
    rw [← hts] at hown
    have hrd := Rd.of_own hown
    have hB : Below w.heap.size w w2 := hb1.trans (hb2.mono hb1.size)
    clear hown hb1 hb2
    obtain ⟨-, A, c, rfl, -, hr⟩ := id hrd
    have RT := Lib.hid hrd
    obtain ⟨n, hn⟩ : ∃ n, n = ts.length := ⟨_, rfl⟩
    rw [← hn] at hr ⊢
    have hnl : n ≤ a0.size := by have := Lx.chain_len _ _ _ (Nat.zero_le _) (Lx.lex_chain a0.data.toList); rw [← hts, ← sz] at this; omega
    have HN := Lib.hid hn
    have HR := Lib.hid hr
    have HB := Lib.hid hB
    have HT := Lib.hid hts
    clear hn hr hts hB hrd
    go_wp2_with fail
    go_loopw [4, 5] (fun v u wr => ∃ i : Nat, i ≤ n ∧ u = .int .i64 i ∧ AgRel a0.data.toList ts w2 i v wr) (fun _ u _ => n - (intOf u).toNat)
    case atStart => exact ⟨0, by omega, rfl, World.ownsRow_lit w2 #[] 0 (Nat.le_refl _) (by decide) rfl, (Below.refl _ _).alloc (Nat.le_refl _) _, Nat.le_refl _, fun t ht => by simp at ht⟩
    case round =>
      obtain ⟨i, hiN, rfl, hrel⟩ := hrel
      have HA := Lib.hid hrel
      have hsz1 : w2.heap.size ≤ wr.heap.size := hrel.2.1.size
      have hjl := hrel.2.2.1
      clear hrel
      by_cases hlt : i < n
      · obtain ⟨g, o, rfl, hg, hr⟩ := HR.out (by omega)
        obtain ⟨t, ht, d0, d1, d2⟩ := rd_tok hr HN.out hlt
        have c0 := (HA.out.2.1.cell (p := ⟨g, o + i * 3, none⟩) hg).trans d0
        have c1 := (HA.out.2.1.cell (p := ⟨g, o + i * 3 + 1, none⟩) hg).trans d1
        have c2 := (HA.out.2.1.cell (p := ⟨g, o + i * 3 + 2, none⟩) hg).trans d2
        have hm : t ∈ Lx.lexF a0.data.toList := by rw [← HT.out]; exact List.mem_of_getElem? ht
        obtain ⟨q1, q2, q3, _⟩ := Lx.lex_at _ hm
        rw [← sz] at q1 q3
        have HM := Lib.hid hm
        have HTI := Lib.hid ht
        clear ht hr d0 d1 d2 hm
        by_cases hk : t.kind = 7
        · have hk' : ((t.kind : Int) == 7) = true := by simp; omega
          go_wp2
          go_ret
          exact ⟨rfl, HB.out.trans (HA.out.2.1.mono HB.out.size)⟩
        · have hk' : ((t.kind : Int) == 7) = false := by simp; omega
          have hwl := (Lx.word_ok _ HM.out hk).2
          have hwd := word_at a0 t.kind t.a t.b (by omega) q3 (by omega) wr
          obtain ⟨wd, hwde⟩ : ∃ wd, wd = a0.extract t.a t.b := ⟨_, rfl⟩
          rw [← hwde] at hwd
          have hws : wd.size = t.b - t.a := by rw [hwde]; simp; omega
          have hwt : wd.data.toList = Lx.wordT a0.data.toList t := by rw [hwde]; exact ext_cut _ _ _
          have hws2 : wd.size ≤ 5000 := by omega
          have HW := Lib.hid hwd
          have HWT := Lib.hid hwt
          clear hwd hwde hwt hwl hws
          obtain ⟨capF, objF, hcb, hnews, hcap⟩ := conv_bytes (P := Try.prog) (wd ++ ({ data := #[32] } : ByteArray)) 9 32 5 Try.underlying9 Try.underlying32 Try.underlying5
          have HNW := Lib.hid hnews
          have hxl : (bytesV (wd ++ ({ data := #[32] } : ByteArray)).data.toList).length = (wd.size + 1) * 1 := by rw [bytesV_len, ← sz, ByteArray.size_append, Nat.mul_one]; rfl
          have HXL := Lib.hid hxl
          clear hnews hcap hxl
          go_wp2_with (first | (go_at_call 13; with_reducible (refine HW.out.mono ?_); rintro e w' ⟨rfl, rfl⟩) | (at_builtin; refine wpList_append_own _ rfl _ _ 32 rfl w2.heap.size 5 i0 _ 1 1 Try.underlying32 hi hz0 hz1 hz2 rfl (by decide) _ _ _ rfl (by exact (HA.out.1.alloc _).alloc _) ⟨wr.heap.size + 1, 0, none⟩ (wd.size + 1) _ (bytesV (wd ++ ({ data := #[32] } : ByteArray)).data.toList) (by rfl) HXL.out ?c1 (bytesV_plain _) (by unfold maxLen; omega) (by omega) (by simp; omega) ?_; rotate_right; intro v' w4 hown' hgrow _))
          · go_roundw
            case rel =>
              refine ⟨i + 1, by omega, by go_num, ag_step HA.out HTI.out hk ?_ ?_ ?_ hown' ?_⟩
              · rw [ByteArray.data_append, Array.toList_append, HWT.out]
              · rw [← sz, ByteArray.size_append]; rfl
              · rw [← sz, ByteArray.size_append]
                have e : ({ data := #[32] } : ByteArray).size = 1 := rfl
                omega
              · exact (((HA.out.2.1.alloc (by omega) _).alloc (by simp; omega) _).drew).grown hgrow (by simp; omega) (fun g e => (HA.out.1.lt g e).1)
            case measure => simp [intOf]; omega
          case c1 =>
            intro j u hu
            have := HNW.out (wr.alloc (tokBox t.kind t.a t.b)) (wr.alloc (tokBox t.kind t.a t.b)) j u rfl hu
            simpa using this
      · obtain rfl : i = n := by omega
        have h7 : ∀ t ∈ Lx.lexF a0.data.toList, t.kind ≠ 7 := by
          have := HA.out.2.2.2
          rw [List.take_of_length_le (by rw [← HN.out]; exact Nat.le_refl _)] at this
          rw [← HT.out]; exact this
        have hJ := HA.out.1
        rw [List.take_of_length_le (by rw [← HN.out]; exact Nat.le_refl _)] at hJ hjl
        have hW0 := Rd.of_own hJ
        obtain ⟨J, hJe⟩ : ∃ J, J = Lx.joinB (Lx.pairs a0.data.toList ts) := ⟨_, rfl⟩
        rw [← hJe] at hW0 hjl
        obtain ⟨-, A4, c4, rfl, -, -⟩ := id hW0
        have hcv : ∀ W, Below wr.heap.size wr W → (convert 32 9 (.slice A4 J.length c4)).run Try.prog W = .ok (.string ⟨⟨J⟩⟩) W := fun W hW => conv_rd (hW0.below hW) _ _ 5 Try.underlying32 Try.underlying5 Try.underlying9
        have hcv3 := hcv wr (Below.refl _ _)
        have hlx : Lx.lexF J = Lx.againT 0 (Lx.pairs a0.data.toList ts) := by rw [hJe, HT.out]; exact Lx.join_lex _ (Lx.pairs_ok _ h7)
        obtain ⟨X, hX⟩ : ∃ X : ByteArray, X = ⟨⟨J⟩⟩ := ⟨_, rfl⟩
        have hXl : X.data.toList = J := by rw [hX]
        have hXs : X.size ≤ i * 5001 := by rw [sz, hXl]; exact hjl
        rw [← hX] at hcv3
        have HX := Lib.hid hX
        have HXL := Lib.hid hXl
        have HLX := Lib.hid hlx
        have HCV := Lib.hid hcv
        have H7 := Lib.hid h7
        have HJE := Lib.hid hJe
        have RT2 := Lib.hid (RT.out.below HA.out.2.1)
        have HB2 := Lib.hid (HB.out.trans (HA.out.2.1.mono HB.out.size))
        clear hlt hiN hJ hW0 hX hXl hlx hcv h7 hJe
        go_wp2_with fail
        refine (lex_any X (by omega) _).mono ?_
        rintro e w5 ⟨vu, rfl, hownu, hbu⟩
        rw [HXL.out, HLX.out, Lx.again_len] at hownu
        have hpl : (Lx.pairs a0.data.toList ts).length = ts.length := by simp [Lx.pairs]
        rw [hpl] at hownu
        have hru := Rd.of_own hownu
        obtain ⟨-, Au, cu, rfl, -, hru2⟩ := id hru
        have RU := Lib.hid hru2
        rw [← HN.out] at RU ⊢
        have RT3 := Lib.hid (RT2.out.below (hbu.mono hsz1))
        have HCV2 := Lib.hid (fun W (hW : Below w5.heap.size w5 W) => HCV.out W (hbu.trans (hW.mono hbu.size)))
        have HB3 := Lib.hid (HB2.out.trans (hbu.mono HB2.out.size))
        have hsz5 : w2.heap.size ≤ w5.heap.size := Nat.le_trans hsz1 hbu.size
        clear hownu hru hru2 hbu hpl hcv3
        go_wp2_with fail
        go_loopw [7] (fun v wx => ∃ j : Nat, j ≤ i ∧ v = .int .i64 j ∧ Below w5.heap.size w5 wx) (fun v _ => i - (intOf v).toNat)
        case atStart => exact ⟨0, by omega, rfl, Below.refl _ _⟩
        case round =>
          obtain ⟨j, hj, rfl, hbr⟩ := hrel
          have HBR := Lib.hid hbr
          have hsz6 := hbr.size
          clear hbr
          by_cases hjn : j < i
          · obtain ⟨-, A1, c1, e1, -, hr1⟩ := RT3.out
            rw [← HN.out] at hr1 e1
            injection e1 with eA e2 e3
            subst eA e3
            obtain ⟨g1, o1, rfl, hg1, hr1⟩ := hr1 (by omega)
            obtain ⟨t, ht, d0, d1, d2⟩ := rd_tok hr1 HN.out hjn
            obtain ⟨g2, o2, rfl, hg2, hr2⟩ := RU.out (by omega)
            obtain ⟨t', ht', f0, f1, f2⟩ := rd_tok hr2 (by rw [Lx.again_len, HN.out]; simp [Lx.pairs]) hjn
            have hm : t ∈ Lx.lexF a0.data.toList := by rw [← HT.out]; exact List.mem_of_getElem? ht
            obtain ⟨q1, q2, q3, _⟩ := Lx.lex_at _ hm
            rw [← sz] at q1 q3
            obtain ⟨ua, ub, k1, k2, k3, k4⟩ := Lx.again_get (Lx.pairs a0.data.toList ts) 0 [] j (by simp [Lx.pairs]; rw [← HN.out]; exact hjn) rfl
            rw [List.nil_append, ← HJE.out] at k3 k4
            have kp : (Lx.pairs a0.data.toList ts)[j]'(by simp [Lx.pairs]; rw [← HN.out]; exact hjn) = (t.kind, Lx.wordT a0.data.toList t) := by
              obtain ⟨hj2, e⟩ := List.getElem?_eq_some_iff.1 ht
              simp [Lx.pairs, e]
            rw [kp] at k1 k4
            rw [k1] at ht'
            injection ht' with ht'
            subst ht'
            have kx : ub ≤ X.size := by rw [sz, HXL.out]; exact k3
            have kw : X.extract ua ub = a0.extract t.a t.b := by
              have e1 : (X.extract ua ub).data.toList = (a0.extract t.a t.b).data.toList := by
                rw [ext_cut, ext_cut, HXL.out]
                exact k4
              exact ByteArray.ext (Array.toList_inj.1 e1)
            have W1 := Lib.hid (fun W => word_at a0 t.kind t.a t.b (by omega) q3 (by omega) W)
            have W2 := Lib.hid (show ∀ W : World, Calls Try.prog 13 #[.string X, .agg #[.int .i64 (t.kind : Int), .int .i64 (ua : Int), .int .i64 (ub : Int)]] W fun e w' => e = .returned (.string (a0.extract t.a t.b)) ∧ W.alloc (tokBox t.kind ua ub) = w' from fun W => by
              have := word_at X t.kind ua ub k2 kx (by omega) W
              rw [kw] at this
              exact this)
            have HCX := Lib.hid (show ∀ W, Below w5.heap.size w5 W → (convert 32 9 (.slice A4 J.length c4)).run Try.prog W = .ok (.string X) W from fun W hW => by rw [HX.out]; exact HCV2.out W hW)
            have x0 := (HBR.out.cell (p := ⟨g1, o1 + j * 3, none⟩) (by show g1 < _; omega)).trans d0
            have x1 := (HBR.out.cell (p := ⟨g1, o1 + j * 3 + 1, none⟩) (by show g1 < _; omega)).trans d1
            have x2 := (HBR.out.cell (p := ⟨g1, o1 + j * 3 + 2, none⟩) (by show g1 < _; omega)).trans d2
            have y0 := (HBR.out.cell (p := ⟨g2, o2 + j * 3, none⟩) hg2).trans f0
            have y1 := (HBR.out.cell (p := ⟨g2, o2 + j * 3 + 1, none⟩) hg2).trans f1
            have y2 := (HBR.out.cell (p := ⟨g2, o2 + j * 3 + 2, none⟩) hg2).trans f2
            replace y0 : wr.cell? ⟨g2, o2 + j * 3, none⟩ = some (.int .i64 (t.kind : Int)) := y0
            replace y1 : wr.cell? ⟨g2, o2 + j * 3 + 1, none⟩ = some (.int .i64 (ua : Int)) := y1
            replace y2 : wr.cell? ⟨g2, o2 + j * 3 + 2, none⟩ = some (.int .i64 (ub : Int)) := y2
            have z0 := HCX.out wr HBR.out
            have hgl1 : g1 < wr.heap.size := by omega
            have hgl2 : g2 < wr.heap.size := by omega
            have hj1 : (j : Int) < i := by omega
            have hkk : ((t.kind : Int) != (t.kind : Int)) = false := by simp
            clear hr1 hr2 ht d0 d1 d2 f0 f1 f2 e2 hm k1 k3 k4 kp kw kx
            go_wp2_with fail
            go_region_held3 (fun w' => w'.cell? ⟨g1, o1 + j * 3, none⟩ = some (.int .i64 (t.kind : Int)) ∧ w'.cell? ⟨g1, o1 + j * 3 + 1, none⟩ = some (.int .i64 (t.a : Int)) ∧ w'.cell? ⟨g1, o1 + j * 3 + 2, none⟩ = some (.int .i64 (t.b : Int)) ∧
                w'.cell? ⟨g2, o2 + j * 3, none⟩ = some (.int .i64 (t.kind : Int)) ∧ w'.cell? ⟨g2, o2 + j * 3 + 1, none⟩ = some (.int .i64 (ua : Int)) ∧ w'.cell? ⟨g2, o2 + j * 3 + 2, none⟩ = some (.int .i64 (ub : Int)) ∧
                (convert 32 9 (.slice A4 J.length c4)).run Try.prog w' = .ok (.string X) w')
              (first | (go_split_ands; refine ⟨by go_keep, by go_keep, by go_keep, by go_keep, by go_keep, by go_keep, ?_⟩; first | assumption | exact HCX.out _ (HBR.out.drew) | exact HCX.out _ ((HBR.out.alloc hsz6 _).drew) | exact HCX.out _ (((HBR.out.alloc hsz6 _).alloc (by simp; omega) _).drew)))
              (first | (go_at_call 13; with_reducible (refine (W1.out _).mono ?_); rintro e w' ⟨rfl, rfl⟩) | (go_at_call 13; with_reducible (refine (W2.out _).mono ?_); rintro e w' ⟨rfl, rfl⟩))
            go_wp2
            go_roundw
            case rel => exact ⟨j + 1, by omega, by go_num, by first | exact (((HBR.out.alloc hsz6 _).alloc (by simp; omega) _).drew)⟩
            case measure => simp [intOf]; omega
          · go_wp2
            go_ret
            exact ⟨rfl, HB3.out.trans (HBR.out.mono HB3.out.size)⟩
  · go_enter Try.func6, Try.ntmps6
    go_wp2_with fail
    refine (alive_any _).mono ?_
    rintro e w1 ⟨rfl, hb1⟩
    go_wp2
    go_ret
    exact ⟨rfl, hb1⟩
end Go.Proofs.Ytfeokaloedfejaa
