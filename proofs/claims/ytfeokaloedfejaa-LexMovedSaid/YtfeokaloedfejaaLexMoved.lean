/- LexMoved answers true: the walk. -/
import Derived.Test.YtfeokaloedfejaaLexL
import Derived.Test.YtfeokaloedfejaaLexH
import Derived.Test.YtfeokaloedfejaaLexN
import Derived.Test.YtfeokaloedfejaaBytes
namespace Go.Proofs.Ytfeokaloedfejaa
open Go.RowKit Go.Lib
set_option maxRecDepth 100000
set_option linter.unusedVariables false

theorem Try.infoU8 : (Try.prog.info? 5).map (fun i => (i.zero, i.size, i.bytes)) = some (some (.int .u8 0), 1, 1) := by kernel_rfl
theorem lex_len (l : List UInt8) : (Lx.lexF l).length ≤ l.length := by
  have := Lx.chain_len _ _ _ (Nat.zero_le _) (Lx.lex_chain l)
  omega
/-- what the loop that lays the white ahead keeps. -/
def MovRel (w : World) (i : Nat) (v : Value) (wr : World) : Prop :=
  wr.ownsRow w.heap.size 5 1 v (14 * i) (bytesV (Lx.blks i)) ∧ Below w.heap.size w wr
theorem mov_step {w wr w1 : World} {i : Nat} {v v' : Value} (h : MovRel w i v wr) (o : Obj) (hown : w1.ownsRow w.heap.size 5 1 v' (14 * i + 14) (bytesV (Lx.blks i) ++ bytesV Lx.blk)) (hg : (wr.alloc o).grownBy w1 v.ownBlock) : MovRel w (i + 1) v' w1 := by
  refine ⟨?_, (h.2.alloc h.2.size o).grown hg (by have := h.2.size; simp; omega) (fun g e => (h.1.lt g e).1)⟩
  rw [Lx.blks_snoc, ← bytesV_app, Nat.mul_add]
  exact hown

theorem moved_list (a0 X : ByteArray) (i : Nat) (hX : X.data.toList = Lx.blks i) : (a0 ++ ({ data := #[32] } : ByteArray) ++ X).data.toList = a0.data.toList ++ 32 :: Lx.blks i := by
  rw [ByteArray.data_append, ByteArray.data_append, Array.toList_append, Array.toList_append, hX, List.append_assoc]
  rfl
theorem moved_size (a0 X : ByteArray) (h1 : a0.size ≤ 5000) (h2 : X.size ≤ 14000) : (a0 ++ ({ data := #[32] } : ByteArray) ++ X).size ≤ 1099511627776 := by
  rw [ByteArray.size_append, ByteArray.size_append]
  have e : ({ data := #[32] } : ByteArray).size = 1 := rfl
  omega
/-- the last reading: a post that the walk does not take apart. -/
def FinPost (ts : List Lx.Tok) (W : World) (e : Ending) (w' : World) : Prop := ∃ v6, e = .returned v6 ∧ Rd w' w'.heap.size 3 v6 ts.length (toksCells ts) ∧ Below W.heap.size W w'
theorem moved_fin (a0 X : ByteArray) (i : Nat) (ts : List Lx.Tok) (W : World) (hts : ts = Lx.lexF a0.data.toList) (hX : X.data.toList = Lx.blks i) (h1 : a0.size ≤ 5000) (h2 : X.size ≤ 14 * i) (h3 : i ≤ 1000)
    (hlast : ∀ v : Lx.Tok, ts.getLast? = some v → v.kind ≠ 7) : Calls Try.prog 11 #[.string (a0 ++ { data := #[32] } ++ X)] W (FinPost ts W) := by
  refine (lex_any _ (moved_size a0 X h1 (by omega)) W).mono ?_
  rintro e w5 ⟨v6, rfl, hown6, hb6⟩
  rw [moved_list a0 X i hX, Lx.blks_behind _ _ (by rw [← hts]; exact hlast), ← hts] at hown6
  exact ⟨v6, rfl, Rd.of_own hown6, hb6⟩
theorem moved_same {a : Nat} (At : Option Addr) (ct : Nat) (v6 : Value) (j : Nat) (ts : List Lx.Tok) (w5 : World) (B : Nat) (hn : j = ts.length) (htl : j ≤ a) (h1 : a ≤ 5000) (h6 : Rd w5 w5.heap.size 3 v6 ts.length (toksCells ts)) (ht : Rd w5 B 3 (.slice At ts.length ct) ts.length (toksCells ts)) :
    Calls Try.prog 10 #[v6, .slice At j ct] w5 (SamePost ts ts w5) := by
  have := sameTokens_any v6 (.slice At ts.length ct) ts ts w5 _ _ h6 ht (by omega) (by omega)
  rw [← hn] at this
  exact this
set_option maxHeartbeats 2000000 in
theorem lexMoved_walk (a0 : ByteArray) (a1 : Int) (w : World) (w0 : a0.size ≤ maxLen) (w1 : (Lit.int .i64 a1).wf = true) : Calls Try.prog 7 #[.string a0, .int .i64 a1] w (TruePost w) := by
  unfold maxLen at w0
  clear w1
  obtain ⟨i0, hi, hz0, hz1, hz2⟩ := info_parts Try.infoU8
  by_cases hsz : a0.size ≤ 5000 ∧ 0 ≤ a1 ∧ a1 ≤ 1000
  · obtain ⟨hs1, hs2, hs3⟩ := hsz
    obtain ⟨N, rfl⟩ := Int.eq_ofNat_of_zero_le hs2
    have hN : N ≤ 1000 := by omega
    clear hs2 hs3
    have kc := fun (w : World) (C : Array Value) (n c : Nat) => Lib.run_convert_bytes_const (P := Try.prog) w 32 5 C n c Try.underlying32 Try.underlying5
    go_enter Try.func7, Try.ntmps7
    go_wp2_with fail
    refine (alive_any _).mono ?_
    rintro e w1 ⟨rfl, hb1⟩
    go_wp2_with fail
    go_loopw [5, 6] (fun v u wr => ∃ i : Nat, i ≤ N ∧ u = .int .i64 i ∧ MovRel w1 i v wr) (fun _ u _ => N - (intOf u).toNat)
    case atStart => exact ⟨0, by omega, rfl, World.ownsRow_lit w1 #[] 0 (Nat.le_refl _) (by decide) rfl, (Below.refl _ _).alloc (Nat.le_refl _) _⟩
    case round =>
      obtain ⟨i, hiN, rfl, hrel⟩ := hrel
      have HR := Lib.hid hrel
      have hsz1 : w1.heap.size ≤ wr.heap.size := hrel.2.size
      clear hrel
      by_cases hlt : i < N
      · go_wp2_with (at_builtin; refine wpList_append_own _ rfl _ _ 32 rfl w1.heap.size 5 i0 _ 1 1 Try.underlying32 hi hz0 hz1 hz2 rfl (by decide) _ _ _ rfl (HR.out.1.alloc _) ⟨wr.heap.size, 0, none⟩ 14 14 (bytesV Lx.blk) rfl rfl (news_mark _ _ _ _ _ rfl) (bytesV_plain _) (by unfold maxLen; omega) (by omega) (by simp; omega) ?_; intro v' w2 hown' hgrow _)
        go_roundw
        case rel => exact ⟨i + 1, by omega, by go_num, mov_step HR.out _ hown' hgrow⟩
        case measure => simp [intOf]; omega
      · obtain rfl : i = N := by omega
        clear hlt hiN kc
        have hW0 := Rd.of_own HR.out.1
        obtain ⟨-, A5, c5, rfl, -, -⟩ := id hW0
        have RW := Lib.hid hW0
        clear hW0
        obtain ⟨ts, hts⟩ : ∃ ts, ts = Lx.lexF a0.data.toList := ⟨_, rfl⟩
        have htl : ts.length ≤ a0.size := by rw [hts, sz]; exact lex_len _
        go_wp2_with fail
        refine (lex_any _ (by omega) _).mono ?_
        rintro e w3 ⟨vt, rfl, hownt, hbt⟩
        rw [← hts] at hownt
        have hrt := Rd.of_own hownt
        have RW3 := Lib.hid (RW.out.below hbt)
        have B3 := Lib.hid ((hb1.trans (HR.out.2.mono hb1.size)).trans (hbt.mono (Nat.le_trans hb1.size HR.out.2.size)))
        have HT := Lib.hid hts
        have hsz3 : wr.heap.size ≤ w3.heap.size := hbt.size
        clear hownt hbt hts hb1
        obtain ⟨-, At, ct, rfl, -, -⟩ := id hrt
        have RT := Lib.hid hrt
        clear hrt
        have hcv : ∀ W, Below w3.heap.size w3 W → (convert 32 9 (.slice A5 (14 * i) c5)).run Try.prog W = .ok (.string ⟨⟨Lx.blks i⟩⟩) W := fun W hW => conv_rd (RW3.out.below (hW.mono hsz3)) _ _ 5 Try.underlying32 Try.underlying5 Try.underlying9
        have HCV := Lib.hid hcv
        have hcv3 := hcv w3 (Below.refl _ _)
        obtain ⟨X, hX⟩ : ∃ X : ByteArray, X = ⟨⟨Lx.blks i⟩⟩ := ⟨_, rfl⟩
        have hXl : X.data.toList = Lx.blks i := by rw [hX]
        have hXs : X.size ≤ 14 * i := by rw [sz, hXl, Lx.blks_len]; exact Nat.le_refl _
        rw [← hX] at hcv3
        have HX := Lib.hid hX
        have HXL := Lib.hid hXl
        clear hcv hX hXl
        go_wp2_with fail
        refine (lex_any (X ++ a0) (by rw [ByteArray.size_append]; omega) _).mono ?_
        rintro e w4 ⟨vu, rfl, hownu, hbu⟩
        have hlu : Lx.lexF (X ++ a0).data.toList = ts.map (Lx.shiftT (14 * i)) := by
          rw [ByteArray.data_append, Array.toList_append, HXL.out, Lx.blks_ahead, HT.out]
        rw [hlu, List.length_map] at hownu
        have hru := Rd.of_own hownu
        have RT4 := Lib.hid (RT.out.below hbu)
        have RW4 := Lib.hid (RW3.out.below (hbu.mono hsz3))
        have B4 := Lib.hid (B3.out.trans (hbu.mono B3.out.size))
        have hsz4 : w3.heap.size ≤ w4.heap.size := hbu.size
        have HCV4 := Lib.hid (fun W (hW : Below w4.heap.size w4 W) => HCV.out W (hbu.trans (hW.mono hsz4)))
        clear hownu hbu hlu
        obtain ⟨-, Au, cu, rfl, -, -⟩ := id hru
        have RU := Lib.hid hru
        clear hru hcv3
        obtain ⟨n, hn⟩ : ∃ n, n = ts.length := ⟨_, rfl⟩
        rw [← hn] at htl ⊢
        have HN := Lib.hid hn
        clear hn
        go_wp2_with fail
        go_loopw [9] (fun v wr2 => ∃ j q : Nat, j ≤ n ∧ v = .int .i64 j ∧ wr2 = w4.drewN q) (fun v _ => n - (intOf v).toNat)
        case atStart => exact ⟨0, 0, by omega, rfl, rfl⟩
        case round =>
          obtain ⟨j, q, hj, rfl, rfl⟩ := hrel
          by_cases hjn : j < n
          · obtain ⟨-, A1, c1, e1, -, hr1⟩ := RT4.out
            rw [← HN.out] at hr1 e1
            injection e1 with eA e2 e3
            subst eA e3
            obtain ⟨g1, o1, rfl, hg1, hr1⟩ := hr1 (by omega)
            obtain ⟨t, ht, d0, d1, d2⟩ := rd_tok hr1 HN.out hjn
            obtain ⟨-, A2, c2, e1, -, hr2⟩ := RU.out
            rw [← HN.out] at hr2 e1
            injection e1 with eA e2 e3
            subst eA e3
            obtain ⟨g2, o2, rfl, hg2, hr2⟩ := hr2 (by omega)
            obtain ⟨t', ht', f0, f1, f2⟩ := rd_tok hr2 (by rw [List.length_map]; exact HN.out) hjn
            rw [List.getElem?_map, ht] at ht'
            simp only [Option.map_some, Option.some.injEq] at ht'
            subst ht'
            have hm : t ∈ Lx.lexF a0.data.toList := by rw [← HT.out]; exact List.mem_of_getElem? ht
            replace f0 : w4.cell? ⟨g2, o2 + j * 3, none⟩ = some (.int .i64 (t.kind : Int)) := f0
            replace f1 : w4.cell? ⟨g2, o2 + j * 3 + 1, none⟩ = some (.int .i64 ((t.a : Int) + 14 * (i : Int))) := by simpa [Lx.shiftT] using f1
            replace f2 : w4.cell? ⟨g2, o2 + j * 3 + 2, none⟩ = some (.int .i64 ((t.b : Int) + 14 * (i : Int))) := by simpa [Lx.shiftT] using f2
            obtain ⟨m1, m2, m3, -⟩ := Lx.lex_at _ hm
            rw [← sz] at m1 m3
            clear hr1 hr2 ht e2 hm
            have x1 : IntKind.i64.wrap ((t.a : Int) + 14 * (i : Int)) = (t.a : Int) + 14 * (i : Int) := IntWalk.i64_in _ (by omega)
            have x2 : IntKind.i64.wrap ((t.b : Int) + 14 * (i : Int)) = (t.b : Int) + 14 * (i : Int) := IntWalk.i64_in _ (by omega)
            have hnq := run_neq_tok
            go_wp2_with fail
            go_quiet (fail)
            go_wp2_with fail
            go_roundw
            case rel => exact ⟨j + 1, q + nq, by omega, by go_num, rfl⟩
            case measure => simp [intOf]; omega
          · obtain rfl : j = n := by omega
            clear hjn hj
            have B5 := Lib.hid (below_drewN B4.out q)
            have hcv4 := HCV4.out (w4.drewN q) (below_drewN (Below.refl _ _) q)
            rw [← HX.out] at hcv4
            have RT5 := Lib.hid (RT4.out.drewN q)
            have SAME := Lib.hid (fun (v6 : Value) (w5 : World) (hr6 : Rd w5 w5.heap.size 3 v6 ts.length (toksCells ts)) (hb6 : Below (w4.drewN q).heap.size (w4.drewN q) w5) => moved_same At ct v6 j ts w5 w3.heap.size HN.out htl hs1 hr6 (RT5.out.below (hb6.mono hsz4)))
            have FIN := Lib.hid (fun hlast => moved_fin a0 X i ts (w4.drewN q) HT.out HXL.out hs1 hXs hN hlast)
            rcases Nat.eq_zero_or_pos j with h0 | h0
            · subst h0
              have hlast : ∀ v : Lx.Tok, ts.getLast? = some v → v.kind ≠ 7 := fun v hv => by
                have e0 : ts = [] := List.eq_nil_of_length_eq_zero HN.out.symm
                rw [e0] at hv; simp at hv
              have HL := Lib.hid (FIN.out hlast)
              clear hlast
              go_wp2_with (go_at_call 11; refine HL.out.mono ?_; rintro e w5 ⟨v6, rfl, hr6, hb6⟩)
              refine (SAME.out v6 w5 hr6 hb6).mono ?_
              rintro e w6 ⟨rfl, q6, rfl⟩
              go_wp2
              go_ret
              exact ⟨by simp, below_drewN (B5.out.trans (hb6.mono B5.out.size)) q6⟩
            · obtain ⟨-, A1, c1, e1, -, hr1⟩ := RT4.out
              rw [← HN.out] at hr1 e1
              injection e1 with eA e2 e3
              subst eA e3
              obtain ⟨g1, o1, rfl, hg1, hr1⟩ := hr1 (by omega)
              obtain ⟨t, ht, d0, d1, d2⟩ := rd_tok (k := j - 1) hr1 HN.out (by omega)
              have hlk : t.kind ≠ 7 → ∀ v : Lx.Tok, ts.getLast? = some v → v.kind ≠ 7 := fun hk v hv => by
                rw [List.getLast?_eq_getElem?, ← HN.out, ht] at hv
                injection hv with hv
                subst hv
                exact hk
              have HLK := Lib.hid hlk
              clear hr1 ht e2 hlk d1 d2
              have z1 : ((j : Int) - 1).toNat = j - 1 := by omega
              by_cases hk : t.kind = 7
              · have hk' : ((t.kind : Int) == 7) = true := by simp; omega
                go_wp2
                go_ret
                exact ⟨rfl, B5.out⟩
              · have hk' : ((t.kind : Int) == 7) = false := by simp; omega
                have HL := Lib.hid (FIN.out (HLK.out hk))
                go_wp2_with (go_at_call 11; refine HL.out.mono ?_; rintro e w5 ⟨v6, rfl, hr6, hb6⟩)
                refine (SAME.out v6 w5 hr6 hb6).mono ?_
                rintro e w6 ⟨rfl, q6, rfl⟩
                go_wp2
                go_ret
                exact ⟨by simp, below_drewN (B5.out.trans (hb6.mono B5.out.size)) q6⟩
  · go_enter Try.func7, Try.ntmps7
    go_wp2_with fail
    refine (alive_any _).mono ?_
    rintro e w1 ⟨rfl, hb1⟩
    go_wp2
    all_goals (go_ret; exact ⟨rfl, hb1⟩)
end Go.Proofs.Ytfeokaloedfejaa
