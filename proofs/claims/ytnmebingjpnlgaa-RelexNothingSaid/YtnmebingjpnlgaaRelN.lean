/- RelexNothing answers true: the walk. -/
import Derived.Test.YtnmebingjpnlgaaRelM
namespace Go.Proofs.Ytnmebingjpnlgaa
open Go.RowKit Go.Lib
set_option maxRecDepth 100000
set_option linter.unusedVariables false
set_option linter.unusedSectionVars false

theorem cut_same (L : List UInt8) (fr to : Nat) (h1 : fr ≤ to) (h2 : to ≤ L.length) : Lx.cutL L ((L.drop fr).take (to - fr)) fr to = L := by
  unfold Lx.cutL
  have e : L.drop to = (L.drop fr).drop (to - fr) := by rw [List.drop_drop, show fr + (to - fr) = to by omega]
  rw [e, List.append_assoc, List.take_append_drop, List.take_append_drop]
/-- does a token begin at a byte or behind it? -/
def from_ (to : Nat) (t : Lx.Tok) : Bool := decide (to ≤ t.a)
/-- is a token touched? -/
def within (fr to : Nat) (t : Lx.Tok) : Bool := decide ((fr : Int) - 1 ≤ t.b) && decide (t.a < to)
theorem kept_self (to : Nat) : ∀ X : List Lx.Tok, X.Pairwise (fun t u => u.a ≤ t.a) → keptR 0 to X X = X.countP (from_ to)
  | [], _ => rfl
  | t :: X, h => by
    obtain ⟨h1, h2⟩ := List.pairwise_cons.1 h
    rw [keptR, List.countP_cons]
    split
    · rename_i ha
      have h0 : X.countP (from_ to) = 0 := by
        rw [List.countP_eq_zero]
        intro u hu
        have := h1 u hu
        simp only [from_, decide_eq_true_eq]
        omega
      rw [h0, if_neg (by simp only [from_, decide_eq_true_eq]; omega)]
    · rename_i ha
      rw [if_pos ⟨⟨rfl, by omega⟩, by omega⟩, kept_self to X h2, if_pos (by simp only [from_, decide_eq_true_eq]; omega)]
theorem chain_pair (l : List UInt8) : ∀ (ts : List Lx.Tok) (e : Nat), Lx.Chain l e ts → ts.Pairwise (fun t u => t.a ≤ u.a) ∧ ∀ t ∈ ts, e ≤ t.a ∧ t.a < t.b
  | [], _, _ => ⟨List.Pairwise.nil, fun _ h => by simp at h⟩
  | t :: ts, e, h => by
    obtain ⟨h1, h2, h3, _, h5⟩ := h
    obtain ⟨p1, p2⟩ := chain_pair l ts t.b h5
    refine ⟨List.pairwise_cons.2 ⟨fun u hu => by have := p2 u hu; omega, p1⟩, fun u hu => ?_⟩
    rcases List.mem_cons.1 hu with rfl | hu
    · exact ⟨h1, h2⟩
    · have := p2 u hu
      omega
theorem count_all (fr to : Nat) (h : fr ≤ to) : ∀ ts : List Lx.Tok, (∀ t ∈ ts, t.a < t.b) → ts.countP (ahead fr) + ts.countP (from_ to) + ts.countP (within fr to) = ts.length
  | [], _ => rfl
  | t :: ts, ht => by
    have ih := count_all fr to h ts (fun u hu => ht u (List.mem_cons_of_mem _ hu))
    have h1 := ht t (List.mem_cons_self ..)
    simp only [List.countP_cons, List.length_cons]
    by_cases c1 : (t.b : Int) < (fr : Int) - 1
    · have e1 : ahead fr t = true := by simpa [ahead] using c1
      have e2 : from_ to t = false := by simp [from_]; omega
      have e3 : within fr to t = false := by simp [within]; omega
      simp only [e1, e2, e3]
      simp
      omega
    · have e1 : ahead fr t = false := by simpa [ahead] using c1
      by_cases c2 : t.a < to
      · have e2 : from_ to t = false := by simp [from_]; omega
        have e3 : within fr to t = true := by simp [within]; omega
        simp only [e1, e2, e3]
        simp
        omega
      · have e2 : from_ to t = true := by simp [from_]; omega
        have e3 : within fr to t = false := by simp [within]; omega
        simp only [e1, e2, e3]
        simp
        omega
theorem nothing_sum (L : List UInt8) (fr to : Nat) (h1 : fr ≤ to) (h2 : to ≤ L.length) : frontN L fr + endN L ((L.drop fr).take (to - fr)) fr to + (Lx.lexF L).countP (within fr to) = (Lx.lexF L).length := by
  obtain ⟨p1, p2⟩ := chain_pair L _ 0 (Lx.lex_chain L)
  have hall := count_all fr to h1 (Lx.lexF L) (fun t ht => (p2 t ht).2)
  have hlen : ((L.drop fr).take (to - fr)).length = to - fr := by rw [List.length_take, List.length_drop]; omega
  have hby : (((L.drop fr).take (to - fr)).length : Int) - ((to : Int) - fr) = 0 := by rw [hlen]; omega
  have hpd : (((Lx.lexF L).drop (frontN L fr)).reverse).Pairwise (fun t u => u.a ≤ t.a) := List.pairwise_reverse.2 (List.Pairwise.drop p1)
  have he : endN L ((L.drop fr).take (to - fr)) fr to = ((Lx.lexF L).drop (frontN L fr)).countP (from_ to) := by
    unfold endN
    rw [cut_same L fr to h1 h2, hby, kept_self to _ hpd, List.countP_reverse]
  have ht : ((Lx.lexF L).take (frontN L fr)).countP (from_ to) = 0 := by
    rw [List.countP_eq_zero]
    intro t ht
    have ha := ahead_take L fr _ 0 (Lx.lex_chain L) t ht
    have hm := p2 t (List.mem_of_mem_take ht)
    simp only [ahead, decide_eq_true_eq] at ha
    simp only [from_, decide_eq_true_eq]
    omega
  have hs : (Lx.lexF L).countP (from_ to) = ((Lx.lexF L).take (frontN L fr)).countP (from_ to) + ((Lx.lexF L).drop (frontN L fr)).countP (from_ to) := by
    rw [← List.countP_append, List.take_append_drop]
  rw [he]
  unfold frontN at hs ht ⊢
  omega
set_option maxHeartbeats 2000000 in
theorem relexNothing_walk (a0 : ByteArray) (a1 a2 : Int) (w : World) (w0 : a0.size ≤ maxLen) (w1 : (Lit.int .i64 a1).wf = true) (w2 : (Lit.int .i64 a2).wf = true) : Calls Try.prog 6 #[.string a0, .int .i64 a1, .int .i64 a2] w (TruePost w) := by
  unfold maxLen at w0
  clear w1 w2
  by_cases hsz : (a0.size ≤ 20000 ∧ 0 ≤ a1) ∧ a1 ≤ a2 ∧ a2 ≤ a0.size
  · obtain ⟨⟨hs1, hs2⟩, hs3, hs4⟩ := hsz
    obtain ⟨fr, rfl⟩ := Int.eq_ofNat_of_zero_le hs2
    obtain ⟨to, rfl⟩ := Int.eq_ofNat_of_zero_le (show 0 ≤ a2 by omega)
    have g2 : fr ≤ to := by omega
    have g3 : to ≤ a0.size := by omega
    clear hs2 hs3 hs4
    have hmid : (a0.extract fr to).data.toList = (a0.data.toList.drop fr).take (to - fr) := ext_cut a0 fr to
    have hsum := nothing_sum a0.data.toList fr to g2 (by rw [← sz]; exact g3)
    have hsame := cut_same a0.data.toList fr to g2 (by rw [← sz]; exact g3)
    rw [← hmid] at hsame
    have HSUM := Lib.hid hsum
    have HSAME := Lib.hid hsame
    clear hmid hsum hsame
    have hw3 : IntKind.i64.wrap ((fr : Int) - 1) = fr - 1 := by rw [IntKind.wrap_i64]; omega
    go_enter Try.func6, Try.ntmps6
    go_wp2_with fail
    refine (alive_any _).mono ?_
    rintro e w1 ⟨rfl, hb1⟩
    go_wp2_with fail
    refine (lex_any _ (by omega) _).mono ?_
    rintro e w2 ⟨v, rfl, hown, hb2⟩
    have hr2 := Rd.of_own hown
    have he2 := own_either hown
    have HRL := Lib.hid (relex_own a0 (a0.extract fr to) v fr to w2 w2.heap.size (Nat.le_refl _) hr2 he2 (by omega) (by rw [ByteArray.size_extract]; omega) g2 g3)
    have HB := Lib.hid (hb1.trans (hb2.mono hb1.size))
    have hcnt := lex_count a0.data.toList
    rw [← sz] at hcnt
    obtain ⟨ts, hts⟩ : ∃ ts, ts = Lx.lexF a0.data.toList := ⟨_, rfl⟩
    rw [← hts] at hr2 hcnt
    have HTS := Lib.hid hts
    have HR2 := Lib.hid hr2
    obtain ⟨-, A, c, rfl, hc, hr⟩ := hr2
    have HR := Lib.hid hr
    clear he2 hown hb1 hb2 hts hr
    go_wp2_with fail
    refine HRL.out.mono ?_
    rintro e w3 ⟨v3, rfl, hown3, hb3⟩
    rw [HSAME.out, ← HTS.out] at hown3
    have HB3 := Lib.hid hb3
    have HO3 := Lib.hid (Rd.of_own hown3)
    have hs23 := hb3.size
    clear hown3 hb3
    obtain ⟨n, hn⟩ : ∃ n, n = ts.length := ⟨_, rfl⟩
    have HN := Lib.hid hn
    go_wp2_with fail
    refine (sameTokens_any v3 (.slice A ts.length c) ts ts w3 _ _ HO3.out (HR2.out.below HB3.out) (by omega) (by omega)).mono ?_
    rintro e w4 ⟨rfl, q, rfl⟩
    rw [← hn] at hc hcnt ⊢
    clear hn
    go_wp2
    go_loopw [12, 13] (fun m i wr => ∃ k : Nat, k ≤ n ∧ i = .int .i64 k ∧ m = .int .i64 ((ts.take k).countP (within fr to) : Nat) ∧ wr = w3.drewN q) (fun _ i _ => n - (intOf i).toNat)
    case atStart => exact ⟨0, by omega, rfl, rfl, rfl⟩
    case round =>
      obtain ⟨k, hk, rfl, rfl, rfl⟩ := hrel
      by_cases hlt : k < n
      · obtain ⟨g, o, rfl, hg, hr⟩ := HR.out (by have := HN.out; omega)
        rw [← HN.out] at hr
        obtain ⟨t, ht, d0, d1, d2⟩ := rd_tok hr HN.out hlt
        have c1' : (w3.drewN q).cell? ⟨g, o + k * 3 + 1, none⟩ = _ := (HB3.out.cell (p := ⟨g, o + k * 3 + 1, none⟩) (by show g < _; omega)).trans d1
        have c2' : (w3.drewN q).cell? ⟨g, o + k * 3 + 2, none⟩ = _ := (HB3.out.cell (p := ⟨g, o + k * 3 + 2, none⟩) (by show g < _; omega)).trans d2
        have HS := Lib.hid (count_step (p := within fr to) ht)
        have hkn : (k : Int) < n := by omega
        have hcl : (ts.take k).countP (within fr to) ≤ k := Nat.le_trans List.countP_le_length (by rw [List.length_take]; omega)
        clear hr ht d0 d1 d2
        by_cases hw : ((fr : Int) - 1 ≤ t.b) ∧ t.a < to
        · obtain ⟨hwa, hwb⟩ := hw
          have HW := Lib.hid (show within fr to t = true from by simp [within, hwb]; omega)
          go_wp2
          go_roundw
          case rel =>
            refine ⟨k + 1, by omega, by go_num, ?_, trivial⟩
            rw [HS.out, HW.out]
            rfl
          case measure => simp [intOf]; omega
        · have HW := Lib.hid (show within fr to t = false from by simp [within]; omega)
          by_cases hwa : (fr : Int) - 1 ≤ t.b
          · have hwb : ¬ t.a < to := fun h => hw ⟨hwa, h⟩
            clear hw
            go_wp2
            go_roundw
            case rel =>
              refine ⟨k + 1, by omega, by go_num, ?_, trivial⟩
              rw [HS.out, HW.out]
              rfl
            case measure => simp [intOf]; omega
          · clear hw
            go_wp2
            go_roundw
            case rel =>
              refine ⟨k + 1, by omega, by go_num, ?_, trivial⟩
              rw [HS.out, HW.out]
              rfl
            case measure => simp [intOf]; omega
      · have e : k = n := by omega
        have hall : (ts.take k).countP (within fr to) = ts.countP (within fr to) := by rw [e, HN.out, List.take_length]
        rw [hall]
        have hsum := HSUM.out
        rw [← HTS.out, ← HN.out] at hsum
        obtain ⟨x, hx⟩ : ∃ x, x = frontN a0.data.toList fr := ⟨_, rfl⟩
        obtain ⟨y, hy⟩ : ∃ y, y = endN a0.data.toList ((a0.data.toList.drop fr).take (to - fr)) fr to := ⟨_, rfl⟩
        obtain ⟨z, hz⟩ : ∃ z, z = ts.countP (within fr to) := ⟨_, rfl⟩
        rw [← hx, ← hy, ← hz] at hsum
        rw [← hx, ← hy, ← hz]
        have HD := Lib.hid (below_drewN (HB.out.trans (HB3.out.mono HB.out.size)) q)
        clear hx hy hz hall e
        go_wp2
        go_ret
        exact ⟨ret_bool (by simp; omega), HD.out⟩
  · go_enter Try.func6, Try.ntmps6
    go_wp2_with fail
    refine (alive_any _).mono ?_
    rintro e w1 ⟨rfl, hb1⟩
    go_wp2_with fail
    all_goals (go_ret; exact ⟨rfl, hb1⟩)
end Go.Proofs.Ytnmebingjpnlgaa
