/- The contract of relex's again. -/
import Derived.Test.YtnmebingjpnlgaaRelI
import Derived.Test.YtnmebingjpnlgaaRefF
namespace Go.Proofs.Ytnmebingjpnlgaa
open Go.RowKit Go.Lib
set_option maxRecDepth 100000
set_option linter.unusedVariables false
set_option linter.unusedSectionVars false

theorem white_idx (c : UInt8) : decide (0 ≤ indexByte [32, 9, 10, 13] c) = Lx.isWhite c := by
  rw [← contains_iff_indexByte, Bool.eq_iff_iff]
  simp only [Lx.isWhite, decide_eq_true_eq, List.contains_iff_mem, List.mem_cons, List.mem_nil_iff, or_false]
  constructor
  · rintro (rfl | rfl | rfl | rfl) <;> simp
  · rintro (h | h | h | h)
    · exact .inl (UInt8.toNat_inj.1 h)
    · exact .inr (.inl (UInt8.toNat_inj.1 h))
    · exact .inr (.inr (.inl (UInt8.toNat_inj.1 h)))
    · exact .inr (.inr (.inr (UInt8.toNat_inj.1 h)))
theorem toks_drop : ∀ (ts : List Lx.Tok) (i : Nat), toksCells (ts.drop i) = (toksCells ts).drop (i * 3)
  | _, 0 => by simp
  | [], i + 1 => by simp [toksCells]
  | t :: ts, i + 1 => by
    rw [List.drop_succ_cons, toks_drop ts i]
    have e : toksCells (t :: ts) = tokCells t ++ toksCells ts := by simp [toksCells]
    rw [e, show (i + 1) * 3 = (tokCells t).length + i * 3 by simp [tokCells]; omega, ← List.drop_drop, List.drop_left]
theorem rd_drop {w : World} {B g o n c : Nat} {ts : List Lx.Tok} {i : Nat} (h : Rd w B 3 (.slice (some ⟨g, o, none⟩) n c) n (toksCells ts)) (hn : n = ts.length) (hi : i < n) :
    Rd w B 3 (.slice (some ⟨g, o + i * 3, none⟩) (n - i) (c - i)) (ts.drop i).length (toksCells (ts.drop i)) := by
  obtain ⟨hl, A, c', e, hc, h⟩ := h
  simp only [Value.slice.injEq, true_and] at e
  obtain ⟨rfl, rfl⟩ := e
  obtain ⟨g', o', e, hg, hr⟩ := h (by omega)
  simp only [Option.some.injEq, Addr.mk.injEq, and_true] at e
  obtain ⟨rfl, rfl⟩ := e
  have hlen : (ts.drop i).length = n - i := by rw [List.length_drop]; omega
  rw [hlen]
  refine ⟨by rw [toksCells_len, hlen], _, _, rfl, by omega, fun _ => ⟨_, _, rfl, hg, fun j hj => ?_⟩⟩
  rw [toks_drop, List.getElem?_drop, Nat.add_assoc]
  exact hr _ (by omega)

/-- the bytes that are read again. -/
def agX (L M : List UInt8) (st fr to : Nat) : List UInt8 := (L.take fr).drop st ++ M ++ L.drop to
/-- what again answers. -/
def AgPost (L M : List UInt8) (st fr to : Nat) (w : World) (e : Ending) (w' : World) : Prop :=
  ∃ v, e = .returned v ∧ v ≠ .slice none 0 0 ∧ w'.ownsRow w.heap.size 27 3 v (Lx.lexF (agX L M st fr to)).length (toksCells ((Lx.lexF (agX L M st fr to)).map (Lx.shiftT st))) ∧ Below w.heap.size w w'
section
variable {L M : List UInt8} {st fr to : Nat} (h1 : st ≤ fr) (h2 : fr ≤ to) (h3 : to ≤ L.length)
include h1 h2 h3
theorem ag_all : movCells (st : Int) (Lx.lexF (agX L M st fr to)) = toksCells ((Lx.lexF (agX L M st fr to)).map (Lx.shiftT st)) := by
  have := mov_shift 0 st st (Lx.lexF (agX L M st fr to)) (by omega)
  rw [Lx.shift_zero] at this
  exact this
theorem ag_parts {p : List UInt8} {k : Nat} {t : Lx.Tok} (ht : (Lx.lexF L)[k]? = some t) (hto : to < t.a) (hw : Lx.isWhite (L[t.a - 1]?.getD 0) = true)
    (hp : p = (L.take fr).drop st ++ M ++ (L.drop to).take (t.a - 1 - to)) (ho : Lx.openB p (Lx.lexF p) = false) {by_ : Int} (hb : by_ = (M.length : Int) - ((to : Int) - fr)) :
    movCells (st : Int) (Lx.lexF p) ++ movCells by_ ((Lx.lexF L).drop k) = toksCells ((Lx.lexF (agX L M st fr to)).map (Lx.shiftT st)) ∧
      (Lx.lexF p).length + ((Lx.lexF L).drop k).length = (Lx.lexF (agX L M st fr to)).length := by
  obtain ⟨q1, q2, q3, _⟩ := Lx.lex_at L (List.mem_of_getElem? ht)
  have hg : L[t.a - 1]? = some (L[t.a - 1]'(by omega)) := List.getElem?_eq_getElem (by omega)
  rw [hg] at hw
  simp only [Option.getD_some] at hw
  have hX : agX L M st fr to = p ++ L[t.a - 1]'(by omega) :: L.drop t.a := by
    have e1 : L.drop to = (L.drop to).take (t.a - 1 - to) ++ L.drop (t.a - 1) := by
      conv => lhs; rw [← List.take_append_drop (t.a - 1 - to) (L.drop to)]
      rw [List.drop_drop, show to + (t.a - 1 - to) = t.a - 1 by omega]
    have e2 : L.drop (t.a - 1) = L[t.a - 1]'(by omega) :: L.drop t.a := by
      rw [Lx.drop_cons L (t.a - 1) (by omega), show t.a - 1 + 1 = t.a by omega]
    rw [hp]
    show (L.take fr).drop st ++ M ++ L.drop to = _
    conv => lhs; rw [e1, e2]
    simp only [List.append_assoc]
  have hd : (Lx.lexF L).drop k = (Lx.lexF (L.drop t.a)).map (Lx.shiftT t.a) := by
    rw [← Lx.at_shift]
    exact (Lx.at_get L _ 0 k t (Nat.le_refl _) (Nat.zero_le _) ht).symm
  have hpl : p.length = (fr - st) + M.length + (t.a - 1 - to) := by
    rw [hp, List.length_append, List.length_append, List.length_drop, List.length_take, List.length_take, List.length_drop]; omega
  have e := Lx.lex_parts p (L.drop t.a) hw ho
  rw [hX, e, hd]
  have m1 := mov_shift 0 st st (Lx.lexF p) (by omega)
  rw [Lx.shift_zero] at m1
  have m2 := mov_shift t.a (p.length + 1 + st) by_ (Lx.lexF (L.drop t.a)) (by rw [hpl, hb]; omega)
  constructor
  · rw [m1, m2, List.map_append, Lx.shift_shift]
    simp [toksCells]
  · simp
end
/-- what Lex answers, by the text's bytes. -/
def ReadPost (l : List UInt8) (w : World) (e : Ending) (w' : World) : Prop :=
  ∃ v, e = .returned v ∧ w'.ownsRow w.heap.size 27 3 v (Lx.lexF l).length (toksCells (Lx.lexF l)) ∧ Below w.heap.size w w'
theorem read_any (s : ByteArray) (l : List UInt8) (e : s.data.toList = l) (hs : s.size ≤ 1099511627776) (w : World) : Calls Try.prog 17 #[.string s] w (ReadPost l w) := by
  subst e
  exact lex_any s hs w
theorem lex_sm (l : List UInt8) (h : l.length ≤ 1125899906842624) : Sm (Lx.lexF l) := fun t ht => by
  have := Lx.lex_at l ht
  omega
theorem lex_count (l : List UInt8) : (Lx.lexF l).length ≤ l.length := by
  have := Lx.chain_len _ _ _ (Nat.zero_le _) (Lx.lex_chain l)
  omega
/-- the pieces of a text, as lists. -/
theorem cut_list (s more : ByteArray) (st fr to q : Nat) : (s.extract st fr ++ more ++ s.extract to q).data.toList = (s.data.toList.take fr).drop st ++ more.data.toList ++ (s.data.toList.drop to).take (q - to) := by
  rw [ByteArray.data_append, ByteArray.data_append, Array.toList_append, Array.toList_append, ext_cut, ext_cut, List.drop_take]
theorem cut_all (s more : ByteArray) (st fr to : Nat) : (s.extract st fr ++ more ++ s.extract to s.size).data.toList = agX s.data.toList more.data.toList st fr to := by
  have e : (s.data.toList.drop to).take (s.size - to) = s.data.toList.drop to := List.take_of_length_le (by rw [List.length_drop, ← sz]; omega)
  rw [cut_list, e]
  rfl
theorem cut_size (s more : ByteArray) (st fr to q : Nat) (hs : s.size ≤ 1073741824) (hm : more.size ≤ 1073741824) : (s.extract st fr ++ more ++ s.extract to q).size ≤ 4294967296 := by
  rw [ByteArray.size_append, ByteArray.size_append, ByteArray.size_extract, ByteArray.size_extract]
  omega
/-- a list of tokens is read and moved. -/
theorem moved_read {l : List UInt8} {w w1 : World} {v : Value} (hl : l.length ≤ 4294967296) (by_ : Int) (h : w1.ownsRow w.heap.size 27 3 v (Lx.lexF l).length (toksCells (Lx.lexF l))) {w2 : World} (hb : Below w1.heap.size w1 w2) (hy : -2251799813685248 ≤ by_ ∧ by_ ≤ 2251799813685248) :
    Calls Try.prog 38 #[v, .int .i64 by_] w2 (MovPost (Lx.lexF l) by_ w2) :=
  movedAll_any v (Lx.lexF l) by_ w2 w1.heap.size hb.size ((Rd.of_own h).below hb) (by have := lex_count l; omega) (lex_sm l (by omega)) hy
theorem own_mono {w : World} {base base' : Nat} {e : TypeId} {size : Nat} {v : Value} {n : Nat} {xs : List Value} (h : w.ownsRow base e size v n xs) (hb : base' ≤ base) : w.ownsRow base' e size v n xs := by
  refine ⟨h.1, ?_⟩
  rcases h.2 with hn | ⟨g, cap, cur, hv, hg, rest⟩
  · exact .inl hn
  · exact .inr ⟨g, cap, cur, hv, by omega, rest⟩
theorem ag_fin {L M : List UInt8} {st fr to : Nat} (h1 : st ≤ fr) (h2 : fr ≤ to) (h3 : to ≤ L.length) {w wc wd we : World} {v : Value} (hb : Below w.heap.size w wc) (hb1 : Below wc.heap.size wc wd) (hv : v ≠ .slice none 0 0)
    (ho : we.ownsRow wd.heap.size 27 3 v (Lx.lexF (agX L M st fr to)).length (movCells (st : Int) (Lx.lexF (agX L M st fr to)))) (hb2 : Below wd.heap.size wd we) : AgPost L M st fr to w (.returned v) we := by
  have hc := hb.size
  have hd := hb1.size
  rw [ag_all h1 h2 h3] at ho
  exact ⟨v, rfl, hv, own_mono ho (by omega), (hb.trans (hb1.mono hc)).trans (hb2.mono (by omega))⟩
theorem moved_read' {l : List UInt8} {w w1 : World} {v : Value} (hl : l.length ≤ 4294967296) (by_ : Int) (h : w1.ownsRow w.heap.size 27 3 v (Lx.lexF l).length (toksCells (Lx.lexF l))) {w2 : World} (hb : Below w1.heap.size w1 w2) (hy : -2251799813685248 ≤ by_ ∧ by_ ≤ 2251799813685248) :
    Calls Try.prog 38 #[v, .int .i64 by_] w2 fun e w' => ∃ v, e = .returned v ∧ v ≠ .slice none 0 0 ∧ w'.ownsRow w2.heap.size 27 3 v (Lx.lexF l).length (movCells by_ (Lx.lexF l)) ∧ Below w2.heap.size w2 w' :=
  moved_read hl by_ h hb hy
theorem moved_rest {ts : List Lx.Tok} {v : Value} {B T2 : Nat} {w w2 : World} {by_ : Int} (h : Rd w B 3 v ts.length (toksCells ts)) (hn : ts.length = T2) (hl : T2 ≤ 1099511627776) (hs : Sm ts) (hB : B ≤ w2.heap.size) (hb : Below B w w2) (hy : -2251799813685248 ≤ by_ ∧ by_ ≤ 2251799813685248) :
    Calls Try.prog 38 #[v, .int .i64 by_] w2 fun e w' => ∃ g c, e = .returned (.slice (some ⟨g, 0, none⟩) T2 c) ∧ w'.ownsRow w2.heap.size 27 3 (.slice (some ⟨g, 0, none⟩) T2 c) T2 (movCells by_ ts) ∧ Below w2.heap.size w2 w' := by
  subst hn
  refine (movedAll_any v ts by_ w2 B hB (h.below hb) hl hs hy).mono ?_
  rintro e w' ⟨v', rfl, hv, ho, hb'⟩
  obtain ⟨g, c, rfl⟩ := own_form ho hv
  exact ⟨g, c, rfl, ho, hb'⟩
theorem sm_drop {ts : List Lx.Tok} (k : Nat) (h : Sm ts) : Sm (ts.drop k) := fun t ht => h t (List.mem_of_mem_drop ht)
theorem keepB {wb w' w'' : World} (hb : Below w'.heap.size w' w'') (h : RowKit.Hid (Below wb.heap.size wb w')) : RowKit.Hid (Below wb.heap.size wb w'') := h.out.trans (hb.mono h.out.size)
theorem keepG {wb w2 w3 : World} {base size n : Nat} {e : TypeId} {v : Value} {xs : List Value} (hg : w2.grownBy w3 v.ownBlock) (h : RowKit.Hid (Below wb.heap.size wb w2)) (ho : w2.ownsRow base e size v n xs) (hb : wb.heap.size ≤ base) : RowKit.Hid (Below wb.heap.size wb w3) :=
  h.out.grown hg h.out.size (fun g e => Nat.le_trans hb (ho.lt g e).1)
set_option maxHeartbeats 8000000 in
theorem again_any (s more : ByteArray) (v1 : Value) (st fr to k0 : Nat) (w : World) (B1 : Nat) (hB : B1 ≤ w.heap.size) (h1 : Rd w B1 3 v1 ((Lx.lexF s.data.toList).drop k0).length (toksCells ((Lx.lexF s.data.toList).drop k0)))
    (hs : s.size ≤ 1073741824) (hm : more.size ≤ 1073741824) (g1 : st ≤ fr) (g2 : fr ≤ to) (g3 : to ≤ s.size) :
    Calls Try.prog 23 #[.string s, v1, .int .i64 (st : Int), .int .i64 (fr : Int), .int .i64 (to : Int), .string more] w (AgPost s.data.toList more.data.toList st fr to w) := by
  obtain ⟨rs, hrs⟩ : ∃ rs, rs = (Lx.lexF s.data.toList).drop k0 := ⟨_, rfl⟩
  obtain ⟨i0, hi, hz0, hz1, hz2⟩ := info_parts Try.infoTok
  have hlen : rs.length ≤ s.size := by
    have := Lx.chain_len _ _ _ (Nat.zero_le _) (Lx.lex_chain s.data.toList)
    rw [hrs, List.length_drop, sz]; omega
  rw [← hrs] at h1
  have hrd := h1
  obtain ⟨-, A1, c1, rfl, hc1, h1⟩ := h1
  obtain ⟨n, hn⟩ : ∃ n, n = rs.length := ⟨_, rfl⟩
  rw [← hn] at h1 hc1 hlen hrd ⊢
  have HH := Lib.hid h1
  have HRD := Lib.hid hrd
  have HN := Lib.hid hn
  have HRS := Lib.hid hrs
  have hw1 : IntKind.i64.wrap ((to : Int) - fr) = to - fr := by rw [IntKind.wrap_i64]; omega
  have hw2 : IntKind.i64.wrap ((more.size : Int) - (to - fr)) = more.size - (to - fr) := by rw [IntKind.wrap_i64]; omega
  have X12 := Lib.hid (fun W => read_any _ _ (cut_all s more st fr to) (Nat.le_trans (cut_size s more st fr to s.size hs hm) (by omega)) W)
  have hal : (agX s.data.toList more.data.toList st fr to).length ≤ 4294967296 := by rw [← cut_all, ← sz]; exact cut_size s more st fr to s.size hs hm
  have HAL := Lib.hid hal
  clear hal
  clear h1 hrd hn hrs
  go_enter Try.func23, Try.ntmps23
  go_wp2
  go_loopw [33] (fun i wr => ∃ k : Nat, k ≤ n ∧ i = .int .i64 k ∧ Below w.heap.size w wr) (fun i _ => n - (intOf i).toNat)
  case atStart => exact ⟨0, by omega, rfl, Below.refl _ _⟩
  case round =>
    obtain ⟨k, hk, rfl, hb⟩ := hrel
    have HB := Lib.hid hb
    have hsz : w.heap.size ≤ wr.heap.size := hb.size
    clear hb
    by_cases hlt : k < n
    · obtain ⟨g, o, rfl, hg, hr⟩ := HH.out (by omega)
      obtain ⟨t, ht, d0, d1, d2⟩ := rd_tok hr HN.out hlt
      have c0 := (HB.out.cell (p := ⟨g, o + k * 3, none⟩) (by show g < _; omega)).trans d0
      have c1' := (HB.out.cell (p := ⟨g, o + k * 3 + 1, none⟩) (by show g < _; omega)).trans d1
      have c2' := (HB.out.cell (p := ⟨g, o + k * 3 + 2, none⟩) (by show g < _; omega)).trans d2
      have htl : (Lx.lexF s.data.toList)[k0 + k]? = some t := by
        have := ht
        rw [HRS.out, List.getElem?_drop] at this
        exact this
      have hat := Lx.lex_at s.data.toList (List.mem_of_getElem? htl)
      rw [← sz] at hat
      obtain ⟨q1, q2, q3, -⟩ := hat
      have HT := Lib.hid htl
      have hkn : (k : Int) < n := by omega
      have hle : ¬ (s.size : Int) < t.a := by omega
      clear hr ht d0 d1 d2 htl
      by_cases h4 : t.a ≤ to
      · have hd : ((t.a : Int) ≤ to) := by omega
        go_wp2
        go_roundw
        case rel => exact ⟨k + 1, by omega, by go_num, HB.out.alloc hsz _⟩
        case measure => simp [intOf]; omega
      · have hd : ¬ ((t.a : Int) ≤ to) := by omega
        have hx1 : (0 : Int) ≤ (t.a : Int) - 1 := by omega
        have hx2 : ((t.a : Int) - 1) < s.size := by omega
        have hx3 : ((t.a : Int) - 1).toNat = t.a - 1 := by omega
        have hlt' : t.a - 1 < s.size := by omega
        have HI := Lib.hid (fun W => indexByte_any { data := #[32, 9, 10, 13] } (s[t.a - 1].toNat : Int) W)
        cases hw : Lx.isWhite s[t.a - 1]
        · have hneg : indexByte [32, 9, 10, 13] s[t.a - 1] < 0 := by
            have := white_idx s[t.a - 1]
            rw [hw] at this
            simpa using this
          go_wp2_with (go_at_call 36; with_reducible (refine (HI.out _).mono ?_); rintro e w' ⟨rfl, rfl⟩)
          go_roundw
          case rel => exact ⟨k + 1, by omega, by go_num, HB.out.alloc hsz _⟩
          case measure => simp [intOf]; omega
        · have hpos : ¬ indexByte [32, 9, 10, 13] s[t.a - 1] < 0 := by
            have := white_idx s[t.a - 1]
            rw [hw] at this
            simp at this
            omega
          have X7 := Lib.hid (fun W => read_any _ _ (cut_list s more st fr to (t.a - 1)) (Nat.le_trans (cut_size s more st fr to (t.a - 1) hs hm) (by omega)) W)
          obtain ⟨pl, hpl⟩ : ∃ pl, pl = (s.data.toList.take fr).drop st ++ more.data.toList ++ (s.data.toList.drop to).take (t.a - 1 - to) := ⟨_, rfl⟩
          have HPL := Lib.hid hpl
          rw [← hpl] at X7
          have hpz : (s.extract st fr ++ more ++ s.extract to (t.a - 1)).data.toList = pl := by rw [cut_list, hpl]
          have HPZ := Lib.hid hpz
          clear hpl hpz
          have hpn : pl.length ≤ 4294967296 := by rw [← HPZ.out, ← sz]; exact cut_size s more st fr to (t.a - 1) hs hm
          have HPN := Lib.hid hpn
          clear hpn
          go_wp2_with (first | (go_at_call 36; with_reducible (refine (HI.out _).mono ?_); rintro e w' ⟨rfl, rfl⟩))
          with_reducible (refine (X7.out _).mono ?_)
          rintro e wa ⟨v7, rfl, hown7, hb7⟩
          have HO7 := Lib.hid hown7
          have HB7 := Lib.hid ((HB.out.alloc hsz _).trans (hb7.mono (by simp; omega)))
          have hsa := HB7.out.size
          clear hown7 hb7
          go_wp2_with fail
          refine (open_any _ v7 (Lx.lexF pl) wa wa.heap.size (Nat.le_refl _) (Rd.of_own HO7.out) (by have := lex_count pl; have := HPN.out; omega) (Nat.le_trans (cut_size s more st fr to (t.a - 1) hs hm) (by omega)) (fun t ht => by have := Lx.lex_at pl ht; have e := HPZ.out; rw [sz, e]; omega)).mono ?_
          rw [HPZ.out]
          rintro e wb ⟨rfl, hbb⟩
          have HBb := Lib.hid hbb
          clear hbb
          cases ho : Lx.openB pl (Lx.lexF pl)
          · have MX1 := Lib.hid (fun W (hW : RowKit.Hid (Below wb.heap.size wb W)) => moved_read' HPN.out (st : Int) HO7.out (HBb.out.trans (hW.out.mono HBb.out.size)) (by omega))
            have hmx : RowKit.Hid (Below w.heap.size w wb) := Lib.hid (HB7.out.trans (HBb.out.mono hsa))
            have hdl : (rs.drop k).length = n - k := by rw [List.length_drop, ← HN.out]
            have MX2 := Lib.hid (fun W (hW : RowKit.Hid (Below wb.heap.size wb W)) => moved_rest (T2 := n - k) ((rd_drop HRD.out HN.out hlt).more hB) hdl (by omega) (by rw [HRS.out, List.drop_drop]; exact sm_drop _ (lex_sm s.data.toList (by rw [← sz]; omega))) (by have := hmx.out.size; have := hW.out.size; omega) (hmx.out.trans (hW.out.mono hmx.out.size)) (by_ := (more.size : Int) - (to - fr)) (by omega))
            have MP := Lib.hid (ag_parts g1 g2 (by rw [← sz]; exact g3) HT.out (by omega) (by rw [at0 s (t.a - 1) hlt']; exact hw) HPL.out ho (by_ := (more.size : Int) - (to - fr)) rfl)
            have hpln : (Lx.lexF pl).length ≤ 4294967296 := Nat.le_trans (lex_count pl) HPN.out
            have hwb : RowKit.Hid (Below wb.heap.size wb wb) := Lib.hid (Below.refl _ _)
            have hkc : (k : Int) ≤ c1 := by omega
            have hk0 : (0 : Int) ≤ k := by omega
            have hkn' : (k : Int) ≤ n := by omega
            clear ho
            go_wp2
            go_region_held3 (fun w' => RowKit.Hid (Below wb.heap.size wb w')) (first | exact hwb | assumption | exact keepB ‹Below _ _ _› ‹RowKit.Hid (Below wb.heap.size wb _)› | exact keepB (Below.drew ‹Below _ _ _›) ‹RowKit.Hid (Below wb.heap.size wb _)› | exact keepB (Below.drew (Below.refl _ _)) ‹RowKit.Hid (Below wb.heap.size wb _)›) (first | (go_at_call 38; with_reducible (refine (MX1.out _ ‹_›).mono ?_); rintro e w1 ⟨v13, rfl, hne13, hown13, hb13⟩) | (go_at_call 38; with_reducible (refine (MX2.out _ ‹_›).mono ?_); rintro e w2 ⟨g14, c14, rfl, hown14, hb14⟩) | (rw [if_pos (by rfl)]; refine wp_append_own _ (.tmp 73) (.tmp 78) 23 rfl _ 27 i0 _ 3 24 Try.underlying23 hi hz0 hz1 hz2 rfl (by decide) _ _ _ rfl (own_below hown13 hb14) ⟨_, 0, none⟩ _ _ _ rfl hown14.1 (hown14.cells rfl) (mov_plain _ _) (by unfold maxLen; omega) (by omega) (by have := hb13.size; have := hb14.size; omega) ?_; intro v' w3 hown' hgrow hnil; have hkeep := keepG hgrow ‹RowKit.Hid (Below wb.heap.size wb _)› (own_below hown13 hb14) (by first | exact Nat.le_refl _ | exact (RowKit.Hid.out ‹RowKit.Hid (Below wb.heap.size wb _)›).size)))
            go_wp2
            go_ret
            refine ⟨_, rfl, fun e => hne13 (hnil.1 e).1, ?_, hmx.out.trans (hkeep.out.mono hmx.out.size)⟩
            obtain ⟨mp1, mp2⟩ := MP.out
            rw [HRS.out, List.drop_drop] at hown'
            rw [mp1] at hown'
            rw [← mp2]
            have e2 : n - k = ((Lx.lexF s.data.toList).drop (k0 + k)).length := by rw [← hdl, HRS.out, List.drop_drop]
            rw [← e2]
            refine own_mono hown' ?_
            have := hmx.out.size
            first | exact this | omega | (refine Nat.le_trans this ?_; first | exact Nat.le_refl _ | exact (RowKit.Hid.out ‹RowKit.Hid (Below wb.heap.size wb _)›).size)
          · go_wp2_with fail
            with_reducible (refine (X12.out _).mono ?_)
            rintro e wd ⟨v12, rfl, hown12, hb12⟩
            have HO12 := Lib.hid hown12
            have HB12 := Lib.hid hb12
            clear hown12 hb12
            go_wp2_with fail
            refine (moved_read HAL.out (st : Int) HO12.out (Below.refl _ _) (by omega)).mono ?_
            rintro e we ⟨v13, rfl, hne13, hown13, hb13⟩
            have HO13 := Lib.hid (ag_fin g1 g2 (by rw [← sz]; exact g3) (HB7.out.trans (HBb.out.mono hsa)) HB12.out hne13 hown13 hb13)
            clear hne13 hown13 hb13
            go_wp2
            go_ret
            exact HO13.out
    · go_wp2_with fail
      with_reducible (refine (X12.out _).mono ?_)
      rintro e wd ⟨v12, rfl, hown12, hb12⟩
      have HO12 := Lib.hid hown12
      have HB12 := Lib.hid hb12
      clear hown12 hb12
      go_wp2_with fail
      refine (moved_read HAL.out (st : Int) HO12.out (Below.refl _ _) (by omega)).mono ?_
      rintro e we ⟨v13, rfl, hne13, hown13, hb13⟩
      have HO13 := Lib.hid (ag_fin g1 g2 (by rw [← sz]; exact g3) HB.out HB12.out hne13 hown13 hb13)
      clear hne13 hown13 hb13
      go_wp2
      go_ret
      exact HO13.out
end Go.Proofs.Ytnmebingjpnlgaa
