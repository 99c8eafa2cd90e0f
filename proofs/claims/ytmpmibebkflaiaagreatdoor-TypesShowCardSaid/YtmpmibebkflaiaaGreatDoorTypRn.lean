/- The contract of types' Read. What types' reader reads is no greater than its tokens. A variable's word is as its token says. Read of a text that isn't great. What types' reader reads is one thing. Read of a text of which it is known what is read. -/
import Derived.Test.YtmpmibebkflaiaaGreatDoorTypRh
import Derived.Test.YtmpmibebkflaiaaGreatDoorLexM
import Derived.Test.YtmpmibebkflaiaaGreatDoorLexH
namespace Go.Proofs.YtmpmibebkflaiaaGreatDoor
open Go.RowKit Go.Lib Go.Shelf Go.Sort Tp
set_option maxRecDepth 100000
set_option linter.unusedVariables false
set_option linter.unusedSectionVars false

theorem PowB.more {B B' : Nat} {w : World} (h : PowB B w) (hB : B ≤ B') : PowB B' w := fun w' h' => h w' (h'.mono hB)
def tokT (s : ByteArray) : List Lx.Tok := Lx.lexF s.data.toList
/-- what Read answers. -/
def ReadPostT (s : ByteArray) (w : World) (e : Ending) (w' : World) : Prop :=
  ∃ t j c, WholeR s (tokT s) 301 0 false t j c ∧ Below w.heap.size w w' ∧
    (if c = false ∧ showF t = (s, 0) then ∃ A cp, e = .returned (.tuple #[tv t (.slice A t.args.length cp), .int .i64 0]) ∧ IsA w' (New w.heap.size w') t.args (.slice A t.args.length cp)
     else e = .returned (.tuple #[tv zeroT (.slice none 0 0), .int .i64 120]))
set_option maxHeartbeats 8000000 in
theorem types_read_any (s : ByteArray) (w : World) (hs : s.size ≤ 1000000000) (hn : (tokT s).length ≤ 1000000000) (hT : TicksOk s (tokT s)) (hE : ErrsB w.heap.size w) (hP : PowB w.heap.size w)
    (hf : ∀ t j c, WholeR s (tokT s) 301 0 false t j c → fit t ∧ (rightF nameB t = true → (writeB t).length ≤ 1099511627776)) :
    Calls Tryz.prog 14 #[.string s] w (ReadPostT s w) := by
  obtain ⟨M, hM⟩ : ∃ M, M = w.alloc (.cells #[.int .i64 0, .int .i64 0, .string ⟨#[]⟩, .slice none 0 0] 24) := ⟨_, rfl⟩
  have hMb : Below w.heap.size w M := by rw [hM]; exact (Below.refl _ _).alloc (Nat.le_refl _) _
  have hMs : M.heap.size = w.heap.size + 1 := by rw [hM]; simp
  have hbk : M.heap[w.heap.size]? = some (.cells #[.int .i64 0, .int .i64 0, .string ⟨#[]⟩, .slice none 0 0] 24) := by rw [hM]; exact heap_alloc_new w _
  have HLx := Lib.hid (lex_any s (by omega) M)
  have HM := Lib.hid hM
  have HMs := Lib.hid hMs
  have HMB := Lib.hid hMb
  have HBK := Lib.hid hbk
  have HNs := Lib.hid hn
  have HSs := Lib.hid hs
  have HTs := Lib.hid hT
  have HE := Lib.hid hE
  have HP := Lib.hid hP
  have HFt := Lib.hid hf
  clear hM hMb hMs hbk hs hn hT hE hP hf
  go_enter Tryz.func14, Tryz.ntmps14
  go_wp2_with fail
  rw [← HM.out]
  refine HLx.out.mono ?_
  rintro e w1 ⟨v, rfl, hown, hb1⟩
  have hrd := Rd.of_own hown
  obtain ⟨-, A, cp, rfl, hcp, -⟩ := id hrd
  have hs1 := hb1.size
  have hbw1 := HMB.out.trans (hb1.mono (by have := HMs.out; omega))
  obtain ⟨W2, hW2⟩ : ∃ W2, W2 = w1.alloc (.cells #[.string s, .slice A (Lx.lexF s.data.toList).length cp, .int .i64 0, .bool false] 54) := ⟨_, rfl⟩
  have hb2 : Below w1.heap.size w1 W2 := by rw [hW2]; exact (Below.refl _ _).alloc (Nat.le_refl _) _
  have hRA : RdA w1.heap.size w1.heap.size s (tokT s) 0 false W2 := ⟨A, cp, by rw [hW2]; exact heap_alloc_new _ _, hrd.below hb2, Nat.le_refl _, Nat.zero_le _⟩
  have hbw2 : Below w.heap.size w W2 := hbw1.trans (hb2.mono (by have := HMs.out; omega))
  have hE2 : ErrsB w1.heap.size W2 := by
    obtain ⟨h1, h2, h3⟩ := HE.out.on hbw2
    exact ⟨by have := HMs.out; omega, by have := HMs.out; omega, h3⟩
  have HC := Lib.hid (whole_any HNs.out HSs.out HTs.out 301 (by omega) 0 false W2 0 (by omega) hRA hE2)
  have HW2 := Lib.hid hW2
  have HB2 := Lib.hid hb2
  have HBW := Lib.hid hbw2
  have HR0 := Lib.hid ((hb2.block _ (by have := HMs.out; omega)).trans ((hb1.block w.heap.size (by have := HMs.out; omega)).trans HBK.out))
  obtain ⟨r, hr⟩ : ∃ r, r = w1.heap.size := ⟨_, rfl⟩
  have hW2s : W2.heap.size = r + 1 := by rw [hW2, hr]; simp
  have HW2s := Lib.hid hW2s
  have hwr : w.heap.size < r := by have := HMs.out; omega
  rw [← hr] at HC
  have HRr := Lib.hid hr
  clear hown hrd hb1 hbw1 hW2 hb2 hRA hbw2 hE2 hW2s hr
  go_wp2_with fail
  rw [← HW2.out]
  rw [← HRr.out]
  refine HC.out.mono ?_
  rintro e w3 ⟨t, j, c, A3, c3, hR, rfl, hI, hij, hpp⟩
  unfold tv
  obtain ⟨hrd3, hg3⟩ := hpp.out
  have hs3 := hg3.size
  have hbw3 : Below w.heap.size w w3 := HBW.out.trans ⟨hg3.os, hg3.tape, hg3.output, hg3.size, fun k hk => hg3.block k (by have := HW2s.out; omega) (fun e => by cases e; omega)⟩
  have h03 := (hg3.block w.heap.size (by have := HW2s.out; omega) (fun e => by cases e; omega)).trans HR0.out
  obtain ⟨W4, hW4⟩ : ∃ W4, W4 = w3.alloc (.cells #[.int .i64 t.kind, .int .i64 t.num, .string t.name, .slice A3 t.args.length c3] 24) := ⟨_, rfl⟩
  have hb4 : Below w3.heap.size w3 W4 := by rw [hW4]; exact (Below.refl _ _).alloc (Nat.le_refl _) _
  have hbw4 : Below w.heap.size w W4 := hbw3.trans (hb4.mono hbw3.size)
  have h14 : W4.heap[w3.heap.size]? = some (.cells #[.int .i64 t.kind, .int .i64 t.num, .string t.name, .slice A3 t.args.length c3] 24) := by rw [hW4]; exact heap_alloc_new _ _
  have hI4 := hI.out.newer hb4 (Nat.le_refl _)
  have hsh := show_any t _ W4 (HFt.out t j c hR).1 (HFt.out t j c hR).2 hI4.new (PowB.more (HP.out.on hbw4) hbw4.size)
  have hW4s : W4.heap.size = w3.heap.size + 1 := by rw [hW4]; simp
  have HSH := Lib.hid hsh
  have HW4 := Lib.hid hW4
  have HR := Lib.hid hR
  have HI4 := Lib.hid hI4
  have HB4 := Lib.hid hb4
  have HBW4 := Lib.hid hbw4
  have H04 := Lib.hid ((hb4.block w.heap.size (by have := hbw3.size; have := HW2s.out; omega)).trans h03)
  have H14 := Lib.hid h14
  have HRD4 := Lib.hid (hrd3.below hb4)
  have HW4s := Lib.hid hW4s
  obtain ⟨n5, hn5⟩ : ∃ n5, n5 = w3.heap.size := ⟨_, rfl⟩
  have HN5 := Lib.hid hn5
  have hn6 : w.heap.size < n5 := by have := HW2s.out; omega
  clear hR hI hij hpp hrd3 hg3 hbw3 h03 hW4 hb4 hbw4 h14 hI4 hsh hW4s HC hn5
  go_wp2_with fail
  rw [← HW4.out, ← HN5.out]
  rw [← HN5.out] at H14
  unfold tv at HSH
  refine HSH.out.mono ?_
  rintro e w5 ⟨rfl, hb5⟩
  have hrow0 := (hb5.block w.heap.size (by have := HW4s.out; have := HN5.out; omega)).trans H04.out
  have hrow1 := (hb5.block n5 (by have := HW4s.out; have := HN5.out; omega)).trans H14.out
  obtain ⟨⟨r0, r1, r2, r3⟩, fr0, fr1, fr2, fr3⟩ := row4 hrow0
  obtain ⟨⟨y0, y1, y2, y3⟩, -⟩ := row4 hrow1
  obtain ⟨A6, c6, hk6, -⟩ := HRD4.out.below hb5
  obtain ⟨⟨q0, q1, q2, q3⟩, -⟩ := row4 hk6
  have hr5 : r < w5.heap.size := (HRD4.out.below hb5).lt
  have HRW := Lib.hid hrow0
  have hs5 := hb5.size
  have hz5 : w.heap.size < w5.heap.size := by omega
  have hz6 : n5 < w5.heap.size := by have := HW4s.out; have := HN5.out; omega
  have HB5 := Lib.hid (HBW4.out.trans (hb5.mono HBW4.out.size))
  have HI5 := Lib.hid (show IsA w5 (New W2.heap.size w5) t.args (.slice A3 t.args.length c3) from HI4.out.newer hb5 (Nat.le_refl _))
  obtain ⟨sb, se, hsb⟩ : ∃ sb se, showF t = (sb, se) := ⟨_, _, rfl⟩
  rw [hsb]
  have HSB := Lib.hid hsb
  clear hrow0 hrow1 hk6 hb5 hsb HSH HRD4
  cases c
  · by_cases hse : se = 0
    · subst hse
      by_cases hss : sb = s
      · subst hss
        have hbb : (sb.toList == sb.toList) = true := by simp
        go_wp2_with fail
        refine bodyPost_ret (v := .tuple #[.agg #[.int .i64 t.kind, .int .i64 t.num, .string t.name, .slice A3 t.args.length c3], .int .i64 0]) (results_cell_tmp rfl _ _ w.heap.size 24 #[.int .i64 t.kind, .int .i64 t.num, .string t.name, .slice A3 t.args.length c3] (0, 0) _ rfl (put4_blk HRW.out _ _ _ _) Tryz.underlying24 rfl infoTy4 _ rfl) rfl ?_
        refine ⟨t, j, false, HR.out, put4_below HB5.out (Nat.le_refl _) _ _ _ _, ?_⟩
        rw [if_pos ⟨rfl, HSB.out⟩]
        exact ⟨A3, c3, rfl, new_put HI5.out (by have := HW2s.out; omega) (by have := HW2s.out; omega) _ _ _ _⟩
      · have hbb : (sb.toList == s.toList) = false := by rw [name_eq]; simp [hss]
        have HNO := Lib.hid (show ¬ showF t = (s, 0) from fun h => hss (by rw [HSB.out] at h; exact (Prod.mk.inj h).1))
        clear hss
        go_wp2_with fail
        refine bodyPost_ret (v := .tuple #[.agg #[.int .i64 0, .int .i64 0, .string ⟨#[]⟩, .slice none 0 0], .int .i64 120]) (results_cell_tmp rfl _ _ w.heap.size 24 #[.int .i64 0, .int .i64 0, .string ⟨#[]⟩, .slice none 0 0] (0, 0) _ rfl (put4_blk HRW.out _ _ _ _) Tryz.underlying24 rfl infoTy4 _ rfl) rfl ?_
        exact ⟨t, j, _, HR.out, put4_below HB5.out (Nat.le_refl _) _ _ _ _, by rw [if_neg (fun h => HNO.out h.2)]; rfl⟩
    · have HNO := Lib.hid (show ¬ showF t = (s, 0) from fun h => hse (by rw [HSB.out] at h; exact (Prod.mk.inj h).2))
      have hbb : (se == 0) = false := by simpa using hse
      go_wp2_with fail
      refine bodyPost_ret (v := .tuple #[.agg #[.int .i64 0, .int .i64 0, .string ⟨#[]⟩, .slice none 0 0], .int .i64 120]) (results_cell_tmp rfl _ _ w.heap.size 24 #[.int .i64 0, .int .i64 0, .string ⟨#[]⟩, .slice none 0 0] (0, 0) _ rfl (put4_blk HRW.out _ _ _ _) Tryz.underlying24 rfl infoTy4 _ rfl) rfl ?_
      exact ⟨t, j, _, HR.out, put4_below HB5.out (Nat.le_refl _) _ _ _ _, by rw [if_neg (fun h => HNO.out h.2)]; rfl⟩
  · go_wp2_with fail
    refine bodyPost_ret (v := .tuple #[.agg #[.int .i64 0, .int .i64 0, .string ⟨#[]⟩, .slice none 0 0], .int .i64 120]) (results_cell_tmp rfl _ _ w.heap.size 24 #[.int .i64 0, .int .i64 0, .string ⟨#[]⟩, .slice none 0 0] (0, 0) _ rfl (put4_blk HRW.out _ _ _ _) Tryz.underlying24 rfl infoTy4 _ rfl) rfl ?_
    exact ⟨t, j, _, HR.out, put4_below HB5.out (Nat.le_refl _) _ _ _ _, by rw [if_neg (fun h => by cases h.1)]; rfl⟩
end Go.Proofs.YtmpmibebkflaiaaGreatDoor
namespace Go.Proofs.YtmpmibebkflaiaaGreatDoor
open Go.RowKit Go.Lib Go.Shelf Go.Sort Tp
set_option maxRecDepth 100000
set_option linter.unusedVariables false
set_option linter.unusedSectionVars false

def GoodT (N L : Nat) (t : Ty) : Prop := ∀ p ∈ parts t, p.name.size ≤ N ∧ p.args.length ≤ L
theorem good_mk {N L : Nat} {k n : Int} {nm : ByteArray} {ls : List Ty} (h1 : nm.size ≤ N) (h2 : ls.length ≤ L) (h3 : ∀ x ∈ ls, GoodT N L x) : GoodT N L (.mk k n nm ls) := by
  intro p hp
  rw [parts_eq, partss_eq] at hp
  rcases List.mem_cons.1 hp with rfl | hp
  · exact ⟨h1, h2⟩
  · obtain ⟨y, hy, hpy⟩ := List.mem_flatMap.1 hp
    exact h3 y hy p hpy
def GoodS (N L M : Nat) (R : Step) : Prop := ∀ i b t j c, R i b t j c → i ≤ M → i ≤ j ∧ j ≤ M ∧ GoodT N L t
section
variable {S z : ByteArray} {ts : List Lx.Tok} {N : Nat}
theorem here_le {i k : Nat} (h : (hereT ts i).kind = k) (hk : k ≠ 0) : i + 1 ≤ ts.length := here_lt (by rw [h]; exact hk)
theorem names_good (hN : ∀ i, (wordT S ts i).size ≤ N) {t u : Ty} {i j : Nat} (h : NamesTo S ts t i u j) (hi : i ≤ ts.length) (ht : GoodT N (ts.length + 2) t) : i ≤ j ∧ j ≤ ts.length ∧ GoodT N (ts.length + 2) u := by
  induction h with
  | nil => exact ⟨Nat.le_refl _, hi, ht⟩
  | snoc h hk ih =>
    obtain ⟨h1, h2, h3⟩ := ih
    exact ⟨by omega, here_le hk (by decide), good_mk (hN _) (by simp) (fun x hx => by rw [List.mem_singleton] at hx; rw [hx]; exact h3)⟩
theorem sep_good {R : Step} (hR : GoodS N (ts.length + 2) ts.length R) {i j : Nat} {b c : Bool} {l : List Ty} (h : SepTo R S z ts i b l j c) (hi : i ≤ ts.length) : i + l.length ≤ j ∧ j ≤ ts.length ∧ ∀ x ∈ l, GoodT N (ts.length + 2) x := by
  induction h with
  | nil => exact ⟨by simp, hi, by simp⟩
  | snoc h hz hn ih =>
    obtain ⟨h1, h2, h3⟩ := ih
    obtain ⟨g1, g2, g3⟩ := hR _ _ _ _ _ hn (isT_lt hz)
    refine ⟨by rw [List.length_append, List.length_singleton]; omega, g2, fun x hx => ?_⟩
    rcases List.mem_append.1 hx with hx | hx
    · exact h3 x hx
    · rw [List.mem_singleton] at hx
      rw [hx]
      exact g3
theorem end_good {i : Nat} {b : Bool} (hi : i ≤ ts.length) : i ≤ (endR S ts i b).1 ∧ (endR S ts i b).1 ≤ ts.length := by
  unfold endR
  split
  · rename_i h
    exact ⟨Nat.le_succ _, isT_lt h⟩
  · exact ⟨Nat.le_refl _, hi⟩
theorem good_cons {x : Ty} {l : List Ty} (h : GoodT N (ts.length + 2) x) (hl : ∀ y ∈ l, GoodT N (ts.length + 2) y) : ∀ y ∈ x :: l, GoodT N (ts.length + 2) y := fun y hy => by
  rcases List.mem_cons.1 hy with rfl | hy
  · exact h
  · exact hl y hy
theorem br_good (hN : ∀ i, (wordT S ts i).size ≤ N) {R : Step} (hR : GoodS N (ts.length + 2) ts.length R) : GoodS N (ts.length + 2) ts.length (BrR R S ts) := by
  rintro i b t j c ⟨x, i1, b1, l, i2, b2, hx, hl, -, h⟩ hi
  obtain ⟨g1, g2, g3⟩ := hR _ _ _ _ _ hx hi
  obtain ⟨s1, s2, s3⟩ := sep_good hR hl g2
  obtain ⟨e1, e2⟩ := end_good (S := S) (b := b2) s2
  have hc := good_cons g3 s3
  split at h
  · obtain ⟨rfl, rfl, rfl⟩ := h
    exact ⟨by omega, e2, g3⟩
  · split at h
    · rename_i hk
      obtain ⟨rfl, rfl, rfl⟩ := h
      exact ⟨by omega, here_le hk (by decide), good_mk (hN _) (by simp; omega) hc⟩
    · obtain ⟨rfl, rfl, rfl⟩ := h
      exact ⟨by omega, e2, good_mk (Nat.zero_le _) (by simp; omega) hc⟩
theorem zero_good {L : Nat} : GoodT N L zeroT := good_mk (Nat.zero_le _) (Nat.zero_le _) (by simp)
theorem named_good (hN : ∀ i, (wordT S ts i).size ≤ N) {R : Step} (hR : GoodS N (ts.length + 2) ts.length R) : GoodS N (ts.length + 2) ts.length (NamedR R S ts) := by
  rintro i b t j c ⟨t0, i0, hh, hn, -⟩ hi
  have key : i ≤ i0 ∧ i0 ≤ ts.length ∧ GoodT N (ts.length + 2) t0 := by
    unfold HeadR at hh
    split at hh
    · rename_i hk
      have hle := here_le hk (by decide)
      split at hh
      · obtain ⟨rfl, rfl, -⟩ := hh
        exact ⟨by omega, hle, good_mk (Nat.zero_le _) (Nat.zero_le _) (by simp)⟩
      · obtain ⟨rfl, rfl, -⟩ := hh
        exact ⟨by omega, hle, zero_good⟩
    split at hh
    · rename_i hk
      obtain ⟨rfl, rfl, -⟩ := hh
      exact ⟨by omega, here_le hk (by decide), good_mk (hN _) (Nat.zero_le _) (by simp)⟩
    split at hh
    · rename_i hz
      obtain ⟨g1, g2, g3⟩ := br_good hN hR _ _ _ _ _ hh (isT_lt hz)
      exact ⟨by omega, g2, g3⟩
    · obtain ⟨rfl, rfl, -⟩ := hh
      exact ⟨Nat.le_refl _, hi, zero_good⟩
  obtain ⟨k1, k2, k3⟩ := key
  obtain ⟨n1, n2, n3⟩ := names_good hN hn k2 k3
  exact ⟨by omega, n2, n3⟩
theorem whole_good (hN : ∀ i, (wordT S ts i).size ≤ N) : ∀ k, GoodS N (ts.length + 2) ts.length (WholeR S ts k) := by
  intro k
  induction k with
  | zero =>
    rintro i b t j c ⟨rfl, rfl, rfl⟩ hi
    exact ⟨Nat.le_refl _, hi, zero_good⟩
  | succ k ih =>
    intro i b t j c h hi
    rw [WholeR] at h
    split at h
    · obtain ⟨rfl, rfl, rfl⟩ := h
      exact ⟨Nat.le_refl _, hi, zero_good⟩
    · obtain ⟨x, i1, b1, l, i2, b2, hx, hl, -, h⟩ := h
      obtain ⟨g1, g2, g3⟩ := named_good hN ih _ _ _ _ _ hx hi
      obtain ⟨s1, s2, s3⟩ := sep_good (named_good hN ih) hl g2
      have hleft : GoodT N (ts.length + 2) (leftT x l) := by
        unfold leftT
        split
        · exact g3
        · exact good_mk (Nat.zero_le _) (by simp; omega) (good_cons g3 s3)
      split at h
      · rename_i hz
        obtain ⟨y, hy, rfl⟩ := h
        obtain ⟨y1, y2, y3⟩ := ih _ _ _ _ _ hy (isT_lt hz)
        exact ⟨by omega, y2, good_mk (Nat.zero_le _) (by simp) (good_cons hleft (fun u hu => by rw [List.mem_singleton] at hu; rw [hu]; exact y3))⟩
      · obtain ⟨rfl, rfl, rfl⟩ := h
        exact ⟨by omega, s2, hleft⟩
end
/-- Read over its tokens alone. -/
theorem types_read (s : ByteArray) (w : World) (hs : s.size ≤ 1000000000) (hn : (tokT s).length ≤ 1000000000) (hN : ∀ i, (wordT s (tokT s) i).size ≤ 16000) (hT : TicksOk s (tokT s)) (hE : ErrsB w.heap.size w) (hP : PowB w.heap.size w) :
    Calls Tryz.prog 14 #[.string s] w (ReadPostT s w) :=
  types_read_any s w hs hn hT hE hP fun t j c h => by
    have hg := (whole_good hN 301 _ _ _ _ _ h (Nat.zero_le _)).2.2
    refine ⟨fun p hp => ⟨by have := (hg p hp).1; omega, by have := (hg p hp).2; omega⟩, fun hr => ?_⟩
    obtain ⟨ho, hw⟩ := right_ok hr
    have := write_len t ho fun p hp => (hg p hp).1
    omega
end Go.Proofs.YtmpmibebkflaiaaGreatDoor
namespace Go.Proofs.YtmpmibebkflaiaaGreatDoor
open Go.RowKit Go.Lib Go.Shelf Go.Sort Tp
set_option maxRecDepth 100000
set_option linter.unusedVariables false
set_option linter.unusedSectionVars false

theorem wordT_list (s : ByteArray) (i : Nat) {t : Lx.Tok} (h : (tokT s)[i]? = some t) : (wordT s (tokT s) i).data.toList = (s.data.toList.drop t.a).take (t.b - t.a) := by
  obtain ⟨h1, h2, h3, -⟩ := Lx.lex_at s.data.toList (List.mem_of_getElem? h)
  have hl : s.data.toList.length = s.size := by simp
  unfold wordT wordF
  rw [show hereT (tokT s) i = t by unfold hereT; rw [h]; rfl, if_pos ⟨by omega, by omega, by omega⟩]
  rw [ByteArray.data_extract]
  simp [List.extract]
theorem tick_tok {l : List UInt8} {n : Nat} (h : Lx.tokF l = (4, n)) : ∃ b r, l = 39 :: b :: r ∧ Lx.isSmall b = true ∧ n = Lx.runN [] (b :: r) + 1 := by
  match l, h with
  | [], h => simp [Lx.tokF] at h
  | c :: t, h =>
    rw [Lx.tokF] at h
    split at h
    · have h1 := (Prod.mk.inj h).1
      unfold Lx.nameKind at h1
      split at h1
      · cases h1
      split at h1
      · cases h1
      · cases h1
    split at h
    · cases (Prod.mk.inj h).1
    split at h
    · cases (Prod.mk.inj h).1
    split at h
    · rename_i ht
      match t, ht, h with
      | b :: r, ht, h =>
        unfold Lx.isTick at ht
        rw [Bool.and_eq_true, decide_eq_true_eq] at ht
        refine ⟨b, r, ?_, ht.2, (Prod.mk.inj h).2.symm⟩
        have : c = 39 := UInt8.toNat_inj.1 (by rw [ht.1]; rfl)
        rw [this]
    split at h
    · cases (Prod.mk.inj h).1
    · cases (Prod.mk.inj h).1
theorem atoi_plain {c : UInt8} {r : List UInt8} (h : Lx.isLetter c = true) {v : Int} (hv : Lib.atoiAll (c :: r) = .ok v) : 0 ≤ v := by
  have hc : ¬ c.toNat = 45 := by
    intro e
    unfold Lx.isLetter Lx.isSmall Lx.isGreat Lx.isDigit at h
    rw [e] at h
    simp at h
  unfold Lib.atoiAll at hv
  simp only [hc, or_false, false_and, not_false_eq_true, true_and, if_false] at hv
  split at hv
  · cases hv
  · cases hv
  · split at hv
    · cases hv
    · simp at hv
      omega
theorem ticks_any (s : ByteArray) : TicksOk s (tokT s) := by
  intro i hk
  have hlt := here_lt (ts := tokT s) (i := i) (by rw [hk]; decide)
  obtain ⟨t, ht⟩ : ∃ t, (tokT s)[i]? = some t := ⟨_, List.getElem?_eq_getElem hlt⟩
  have hh : hereT (tokT s) i = t := by unfold hereT; rw [ht]; rfl
  rw [hh] at hk
  obtain ⟨h1, h2, h3, h4⟩ := Lx.lex_at s.data.toList (List.mem_of_getElem? ht)
  have htk := h4 (by omega)
  rw [hk] at htk
  obtain ⟨b, r, hl, hb, hn⟩ := tick_tok htk
  have hw := wordT_list s i ht
  rw [hl, hn, List.take_succ_cons] at hw
  have hnb : Lx.nameCh [] b = true := by unfold Lx.nameCh Lx.isLetter; rw [hb]; rfl
  have hrun : (b :: r).take (Lx.runN [] (b :: r)) = b :: r.takeWhile (Lx.nameCh []) := by
    unfold Lx.runN
    rw [List.takeWhile_cons, hnb]
    simp only [if_true, List.length_cons, List.take_succ_cons]
    congr 1
    exact List.prefix_iff_eq_take.1 (List.takeWhile_prefix _) |>.symm
  rw [hrun] at hw
  unfold Lx.isSmall at hb
  rw [decide_eq_true_eq] at hb
  refine ⟨b, _, hw, hb.1, hb.2, fun v hv => ?_⟩
  cases hr : r.takeWhile (Lx.nameCh []) with
  | nil => rw [hr] at hv; simp [Lib.atoiAll] at hv
  | cons c r' =>
    rw [hr] at hv
    have hc : Lx.nameCh [] c = true := by
      have := List.all_takeWhile (l := r) (p := Lx.nameCh [])
      rw [hr] at this
      simp at this
      exact this.1
    refine atoi_plain ?_ hv
    unfold Lx.nameCh at hc
    simpa using hc
end Go.Proofs.YtmpmibebkflaiaaGreatDoor
namespace Go.Proofs.YtmpmibebkflaiaaGreatDoor
open Go.RowKit Go.Lib Go.Shelf Go.Sort Tp
set_option maxRecDepth 100000
set_option linter.unusedVariables false
set_option linter.unusedSectionVars false

theorem tokT_len (s : ByteArray) : (tokT s).length ≤ s.size := by
  have := Lx.chain_len _ _ _ (Nat.zero_le _) (Lx.lex_chain s.data.toList)
  have hl : s.data.toList.length = s.size := by simp
  unfold tokT
  omega
/-- .. whose words aren't great. -/
theorem types_read_words (s : ByteArray) (w : World) (hs : s.size ≤ 1000000000) (hN : ∀ i, (wordT s (tokT s) i).size ≤ 16000) (hE : ErrsB w.heap.size w) (hP : PowB w.heap.size w) : Calls Tryz.prog 14 #[.string s] w (ReadPostT s w) :=
  types_read s w hs (by have := tokT_len s; omega) hN (ticks_any s) hE hP
theorem types_read_small (s : ByteArray) (w : World) (hs : s.size ≤ 16000) (hE : ErrsB w.heap.size w) (hP : PowB w.heap.size w) : Calls Tryz.prog 14 #[.string s] w (ReadPostT s w) :=
  types_read_words s w (by omega) (fun i => Nat.le_trans (wordT_size s (tokT s) i) hs) hE hP
end Go.Proofs.YtmpmibebkflaiaaGreatDoor
namespace Go.Proofs.YtmpmibebkflaiaaGreatDoor
open Go.RowKit Go.Lib Go.Shelf Go.Sort Tp
set_option maxRecDepth 100000
set_option linter.unusedVariables false
set_option linter.unusedSectionVars false

def DetS (R : Step) : Prop := ∀ i b t j c t' j' c', R i b t j c → R i b t' j' c' → t = t' ∧ j = j' ∧ c = c'
section
variable {S z : ByteArray} {ts : List Lx.Tok}
theorem names_le {t u : Ty} {i j : Nat} (h : NamesTo S ts t i u j) : i ≤ j := by
  induction h with
  | nil => exact Nat.le_refl _
  | snoc h hk ih => omega
theorem names_cmp {t u' : Ty} {i j' : Nat} (h' : NamesTo S ts t i u' j') : ∀ u j, NamesTo S ts t i u j → j ≤ j' → (j = j' ∧ u = u') ∨ (j < j' ∧ (hereT ts j).kind = 1) := by
  induction h' with
  | nil =>
    intro u j h hj
    cases h with
    | nil => exact .inl ⟨rfl, rfl⟩
    | snoc h hk => have := names_le h; omega
  | snoc h' hk ih =>
    intro u j h hj
    rcases Nat.lt_or_ge j (Nat.succ _) with hlt | hge
    · rcases ih u j h (Nat.le_of_lt_succ hlt) with ⟨rfl, -⟩ | ⟨h1, h2⟩
      · exact .inr ⟨Nat.lt_succ_self _, hk⟩
      · exact .inr ⟨Nat.lt_succ_of_lt h1, h2⟩
    · obtain rfl := Nat.le_antisymm hj hge
      cases h with
      | nil => have := names_le h'; omega
      | snoc h hk2 =>
        rcases ih _ _ h (Nat.le_refl _) with ⟨-, rfl⟩ | ⟨h1, -⟩
        · exact .inl ⟨rfl, rfl⟩
        · omega
theorem names_det {t u u' : Ty} {i j j' : Nat} (h : NamesTo S ts t i u j) (hk : (hereT ts j).kind ≠ 1) (h' : NamesTo S ts t i u' j') (hk' : (hereT ts j').kind ≠ 1) : u = u' ∧ j = j' := by
  rcases Nat.le_total j j' with hl | hl
  · rcases names_cmp h' u j h hl with ⟨rfl, rfl⟩ | ⟨-, h1⟩
    · exact ⟨rfl, rfl⟩
    · exact absurd h1 hk
  · rcases names_cmp h u' j' h' hl with ⟨rfl, rfl⟩ | ⟨-, h1⟩
    · exact ⟨rfl, rfl⟩
    · exact absurd h1 hk'
theorem sep_cmp {R : Step} (hR : DetS R) {i j' : Nat} {b c' : Bool} {l' : List Ty} (h' : SepTo R S z ts i b l' j' c') : ∀ l j c, SepTo R S z ts i b l j c → l.length ≤ l'.length → (l = l' ∧ j = j' ∧ c = c') ∨ (l.length < l'.length ∧ isT S z (hereT ts j) = true) := by
  induction h' with
  | nil =>
    intro l j c h hl
    cases h with
    | nil => exact .inl ⟨rfl, rfl, rfl⟩
    | snoc h hz hN => simp at hl
  | @snoc l0 _ _ _ _ _ h' hz' hN' ih =>
    intro l j c h hl
    rw [List.length_append, List.length_singleton] at hl ⊢
    by_cases hle : l.length ≤ l0.length
    · rcases ih l j c h hle with ⟨rfl, rfl, rfl⟩ | ⟨h1, h2⟩
      · exact .inr ⟨Nat.lt_succ_self _, hz'⟩
      · exact .inr ⟨Nat.lt_succ_of_lt h1, h2⟩
    · cases h with
      | nil => simp at hle
      | snoc h hz hN =>
        rw [List.length_append, List.length_singleton] at hl hle
        rcases ih _ _ _ h (by omega) with ⟨rfl, rfl, rfl⟩ | ⟨h1, -⟩
        · obtain ⟨rfl, rfl, rfl⟩ := hR _ _ _ _ _ _ _ _ hN hN'
          exact .inl ⟨rfl, rfl, rfl⟩
        · omega
theorem sep_det {R : Step} (hR : DetS R) {i j j' : Nat} {b c c' : Bool} {l l' : List Ty} (h : SepTo R S z ts i b l j c) (hz : isT S z (hereT ts j) = false) (h' : SepTo R S z ts i b l' j' c') (hz' : isT S z (hereT ts j') = false) : l = l' ∧ j = j' ∧ c = c' := by
  rcases Nat.le_total l.length l'.length with hl | hl
  · rcases sep_cmp hR h' l j c h hl with h1 | ⟨-, h1⟩
    · exact h1
    · rw [hz] at h1; cases h1
  · rcases sep_cmp hR h l' j' c' h' hl with ⟨rfl, rfl, rfl⟩ | ⟨-, h1⟩
    · exact ⟨rfl, rfl, rfl⟩
    · rw [hz'] at h1; cases h1
theorem br_det {R : Step} (hR : DetS R) : DetS (BrR R S ts) := by
  rintro i b t j c t' j' c' ⟨x, i1, b1, l, i2, b2, hx, hl, hz, h⟩ ⟨x', i1', b1', l', i2', b2', hx', hl', hz', h'⟩
  obtain ⟨rfl, rfl, rfl⟩ := hR _ _ _ _ _ _ _ _ hx hx'
  obtain ⟨rfl, rfl, rfl⟩ := sep_det hR hl hz hl' hz'
  by_cases hn : l = []
  · rw [if_pos hn] at h h'
    obtain ⟨rfl, rfl, rfl⟩ := h
    obtain ⟨rfl, rfl, rfl⟩ := h'
    exact ⟨rfl, rfl, rfl⟩
  · rw [if_neg hn] at h h'
    by_cases hk : (hereT ts (endR S ts i2 b2).1).kind = 1
    · rw [if_pos hk] at h h'
      obtain ⟨rfl, rfl, rfl⟩ := h
      obtain ⟨rfl, rfl, rfl⟩ := h'
      exact ⟨rfl, rfl, rfl⟩
    · rw [if_neg hk] at h h'
      obtain ⟨rfl, rfl, rfl⟩ := h
      obtain ⟨rfl, rfl, rfl⟩ := h'
      exact ⟨rfl, rfl, rfl⟩
theorem head_det {R : Step} (hR : DetS R) : DetS (HeadR R S ts) := by
  intro i b t j c t' j' c' h h'
  unfold HeadR at h h'
  by_cases h4 : (hereT ts i).kind = 4
  · rw [if_pos h4] at h h'
    cases hv : varN (wordT S ts i).data.toList with
    | none =>
      rw [hv] at h h'
      obtain ⟨rfl, rfl, rfl⟩ := h
      obtain ⟨rfl, rfl, rfl⟩ := h'
      exact ⟨rfl, rfl, rfl⟩
    | some n =>
      rw [hv] at h h'
      obtain ⟨rfl, rfl, rfl⟩ := h
      obtain ⟨rfl, rfl, rfl⟩ := h'
      exact ⟨rfl, rfl, rfl⟩
  rw [if_neg h4] at h h'
  by_cases h1 : (hereT ts i).kind = 1
  · rw [if_pos h1] at h h'
    obtain ⟨rfl, rfl, rfl⟩ := h
    obtain ⟨rfl, rfl, rfl⟩ := h'
    exact ⟨rfl, rfl, rfl⟩
  rw [if_neg h1] at h h'
  by_cases hz : isT S ⟨#[40]⟩ (hereT ts i) = true
  · rw [if_pos hz] at h h'
    exact br_det hR _ _ _ _ _ _ _ _ h h'
  · rw [if_neg hz] at h h'
    obtain ⟨rfl, rfl, rfl⟩ := h
    obtain ⟨rfl, rfl, rfl⟩ := h'
    exact ⟨rfl, rfl, rfl⟩
theorem named_det {R : Step} (hR : DetS R) : DetS (NamedR R S ts) := by
  rintro i b t j c t' j' c' ⟨t0, i0, hh, hn, hk⟩ ⟨t0', i0', hh', hn', hk'⟩
  obtain ⟨rfl, rfl, rfl⟩ := head_det hR _ _ _ _ _ _ _ _ hh hh'
  obtain ⟨rfl, rfl⟩ := names_det hn hk hn' hk'
  exact ⟨rfl, rfl, rfl⟩
theorem whole_det : ∀ k, DetS (WholeR S ts k) := by
  intro k
  induction k with
  | zero =>
    rintro i b t j c t' j' c' ⟨rfl, rfl, rfl⟩ ⟨rfl, rfl, rfl⟩
    exact ⟨rfl, rfl, rfl⟩
  | succ k ih =>
    intro i b t j c t' j' c' h h'
    rw [WholeR] at h h'
    by_cases hb : b = true
    · rw [if_pos hb] at h h'
      obtain ⟨rfl, rfl, rfl⟩ := h
      obtain ⟨rfl, rfl, rfl⟩ := h'
      exact ⟨rfl, rfl, rfl⟩
    rw [if_neg hb] at h h'
    obtain ⟨x, i1, b1, l, i2, b2, hx, hl, hz, h⟩ := h
    obtain ⟨x', i1', b1', l', i2', b2', hx', hl', hz', h'⟩ := h'
    obtain ⟨rfl, rfl, rfl⟩ := named_det ih _ _ _ _ _ _ _ _ hx hx'
    obtain ⟨rfl, rfl, rfl⟩ := sep_det (named_det ih) hl hz hl' hz'
    by_cases ha : isT S ⟨#[45, 62]⟩ (hereT ts i2) = true
    · rw [if_pos ha] at h h'
      obtain ⟨y, hy, rfl⟩ := h
      obtain ⟨y', hy', rfl⟩ := h'
      obtain ⟨rfl, rfl, rfl⟩ := ih _ _ _ _ _ _ _ _ hy hy'
      exact ⟨rfl, rfl, rfl⟩
    · rw [if_neg ha] at h h'
      obtain ⟨rfl, rfl, rfl⟩ := h
      obtain ⟨rfl, rfl, rfl⟩ := h'
      exact ⟨rfl, rfl, rfl⟩
end
end Go.Proofs.YtmpmibebkflaiaaGreatDoor
namespace Go.Proofs.YtmpmibebkflaiaaGreatDoor
open Go.RowKit Go.Lib Go.Shelf Go.Sort Tp
set_option maxRecDepth 100000
set_option linter.unusedVariables false
set_option linter.unusedSectionVars false

/-- Read answers this type. -/
def ReadOk (t : Ty) (w : World) (e : Ending) (w' : World) : Prop := Below w.heap.size w w' ∧ ∃ A cp, e = .returned (.tuple #[tv t (.slice A t.args.length cp), .int .i64 0]) ∧ IsA w' (New w.heap.size w') t.args (.slice A t.args.length cp)
theorem read_known {s : ByteArray} {t : Ty} {j : Nat} (h : WholeR s (tokT s) 301 0 false t j false) (hsh : showF t = (s, 0)) (w : World) (hs : s.size ≤ 1000000000) (hN : ∀ i, (wordT s (tokT s) i).size ≤ 16000) (hE : ErrsB w.heap.size w) (hP : PowB w.heap.size w) :
    Calls Tryz.prog 14 #[.string s] w (ReadOk t w) :=
  (types_read_words s w hs hN hE hP).mono fun e w' ⟨t', j', c', h1, h2, h3⟩ => by
    obtain ⟨rfl, rfl, rfl⟩ := whole_det 301 _ _ _ _ _ _ _ _ h h1
    rw [if_pos ⟨rfl, hsh⟩] at h3
    exact ⟨h2, h3⟩
section
variable {S : ByteArray} {ts : List Lx.Tok} {R : Step} {i : Nat} {b : Bool}
theorem named_name (h1 : (hereT ts i).kind = 1) (h2 : (hereT ts (i + 1)).kind ≠ 1) : NamedR R S ts i b (.mk 2 0 (wordT S ts i) []) (i + 1) b :=
  ⟨_, _, by unfold HeadR; rw [if_neg (by omega), if_pos h1]; exact ⟨rfl, rfl, rfl⟩, .nil _ _, h2⟩
theorem named_var {n : Int} (h1 : (hereT ts i).kind = 4) (hv : varN (wordT S ts i).data.toList = some n) (h2 : (hereT ts (i + 1)).kind ≠ 1) : NamedR R S ts i b (var n) (i + 1) b :=
  ⟨_, _, by unfold HeadR; rw [if_pos h1, hv]; exact ⟨rfl, rfl, rfl⟩, .nil _ _, h2⟩
theorem named_var_name {n : Int} (h1 : (hereT ts i).kind = 4) (hv : varN (wordT S ts i).data.toList = some n) (h2 : (hereT ts (i + 1)).kind = 1) (h3 : (hereT ts (i + 2)).kind ≠ 1) : NamedR R S ts i b (.mk 2 0 (wordT S ts (i + 1)) [var n]) (i + 2) b :=
  ⟨_, _, by unfold HeadR; rw [if_pos h1, hv]; exact ⟨rfl, rfl, rfl⟩, .snoc (.nil _ _) h2, h3⟩
theorem whole_one {k j : Nat} {t : Ty} {c : Bool} (h : NamedR (WholeR S ts k) S ts i false t j c) (h1 : isT S ⟨#[42]⟩ (hereT ts j) = false) (h2 : isT S ⟨#[45, 62]⟩ (hereT ts j) = false) : WholeR S ts (k + 1) i false t j c := by
  exact ⟨t, j, c, [], j, c, h, .nil _ _, h1, by rw [h2]; exact ⟨rfl, rfl, rfl⟩⟩
theorem whole_arrow {k j j2 : Nat} {t y : Ty} {c c2 : Bool} (h : NamedR (WholeR S ts k) S ts i false t j c) (h1 : isT S ⟨#[42]⟩ (hereT ts j) = false) (h2 : isT S ⟨#[45, 62]⟩ (hereT ts j) = true) (hy : WholeR S ts k (j + 1) c y j2 c2) : WholeR S ts (k + 1) i false (.mk 4 0 ⟨#[]⟩ [t, y]) j2 c2 := by
  exact ⟨t, j, c, [], j, c, h, .nil _ _, h1, by rw [h2]; exact ⟨y, hy, rfl⟩⟩
theorem whole_pair_arrow {k j j1 j2 : Nat} {t u y : Ty} {c c1 c2 : Bool} (h : NamedR (WholeR S ts k) S ts i false t j c) (h1 : isT S ⟨#[42]⟩ (hereT ts j) = true) (hu : NamedR (WholeR S ts k) S ts (j + 1) c u j1 c1) (h3 : isT S ⟨#[42]⟩ (hereT ts j1) = false) (h2 : isT S ⟨#[45, 62]⟩ (hereT ts j1) = true) (hy : WholeR S ts k (j1 + 1) c1 y j2 c2) :
    WholeR S ts (k + 1) i false (.mk 4 0 ⟨#[]⟩ [.mk 3 0 ⟨#[]⟩ [t, u], y]) j2 c2 := by
  exact ⟨t, j, c, [u], j1, c1, h, .snoc (.nil _ _) h1 hu, h3, by rw [h2]; exact ⟨y, hy, rfl⟩⟩
end
/-- "int -> int". -/
def s3 : ByteArray := ⟨#[105, 110, 116, 32, 45, 62, 32, 105, 110, 116]⟩
def intT : Ty := .mk 2 0 ⟨#[105, 110, 116]⟩ []
theorem toks3 : tokT s3 = [⟨1, 0, 3⟩, ⟨6, 4, 6⟩, ⟨1, 7, 10⟩] := by decide +kernel
theorem whole3 : WholeR s3 (tokT s3) 301 0 false (.mk 4 0 ⟨#[]⟩ [intT, intT]) 3 false := by
  rw [toks3]
  refine whole_arrow (j := 1) (c := false) (named_name (i := 0) (by decide +kernel) (by decide +kernel)) (by decide +kernel) (by decide +kernel) (whole_one (k := 299) (named_name (i := 2) (by decide +kernel) (by decide +kernel)) (by decide +kernel) (by decide +kernel))
/-- "'b1 -> 'b1". -/
def s2 : ByteArray := ⟨#[39, 98, 49, 32, 45, 62, 32, 39, 98, 49]⟩
theorem toks2 : tokT s2 = [⟨4, 0, 3⟩, ⟨6, 4, 6⟩, ⟨4, 7, 10⟩] := by decide +kernel
theorem whole2 : WholeR s2 (tokT s2) 301 0 false (.mk 4 0 ⟨#[]⟩ [var 27, var 27]) 3 false := by
  rw [toks2]
  refine whole_arrow (j := 1) (c := false) (named_var (i := 0) (n := 27) (by decide +kernel) (by decide +kernel) (by decide +kernel)) (by decide +kernel) (by decide +kernel) (whole_one (k := 299) (named_var (i := 2) (n := 27) (by decide +kernel) (by decide +kernel) (by decide +kernel)) (by decide +kernel) (by decide +kernel))
/-- "'a * int -> 'a list". -/
def s1 : ByteArray := ⟨#[39, 97, 32, 42, 32, 105, 110, 116, 32, 45, 62, 32, 39, 97, 32, 108, 105, 115, 116]⟩
theorem toks1 : tokT s1 = [⟨4, 0, 2⟩, ⟨6, 3, 4⟩, ⟨1, 5, 8⟩, ⟨6, 9, 11⟩, ⟨4, 12, 14⟩, ⟨1, 15, 19⟩] := by decide +kernel
def t1 : Ty := .mk 4 0 ⟨#[]⟩ [.mk 3 0 ⟨#[]⟩ [var 0, intT], .mk 2 0 ⟨#[108, 105, 115, 116]⟩ [var 0]]
theorem whole1 : WholeR s1 (tokT s1) 301 0 false t1 6 false := by
  rw [toks1]
  refine whole_pair_arrow (j := 1) (j1 := 3) (c := false) (c1 := false) (named_var (i := 0) (n := 0) (by decide +kernel) (by decide +kernel) (by decide +kernel)) (by decide +kernel) (named_name (i := 2) (by decide +kernel) (by decide +kernel)) (by decide +kernel) (by decide +kernel)
    (whole_one (k := 299) (named_var_name (i := 4) (n := 0) (by decide +kernel) (by decide +kernel) (by decide +kernel) (by decide +kernel)) (by decide +kernel) (by decide +kernel))
theorem show1 : showF t1 = (s1, 0) := by decide +kernel
theorem show2 : showF (.mk 4 0 ⟨#[]⟩ [var 27, var 27]) = (s2, 0) := by decide +kernel
theorem show3 : showF (.mk 4 0 ⟨#[]⟩ [intT, intT]) = (s3, 0) := by decide +kernel
end Go.Proofs.YtmpmibebkflaiaaGreatDoor
