/- The contracts of relex's moved, movedAll. -/
import Derived.Test.YtnmebingjpnlgaaLexS
import Derived.Test.YtnmebingjpnlgaaRelG
import Derived.Test.YtnmebingjpnlgaaLexW
import Derived.Laws.MakeOwn
import Derived.Laws.Rows
namespace Go.Proofs.Ytnmebingjpnlgaa
open Go.RowKit Go.Lib
set_option maxRecDepth 100000
set_option linter.unusedVariables false
set_option linter.unusedSectionVars false

/-- the cells of tokens that are moved. -/
def movTok (by_ : Int) (t : Lx.Tok) : List Value := [.int .i64 (t.kind : Int), .int .i64 ((t.a : Int) + by_), .int .i64 ((t.b : Int) + by_)]
def movCells (by_ : Int) (ts : List Lx.Tok) : List Value := ts.flatMap (movTok by_)
theorem mov_snoc (by_ : Int) (ts : List Lx.Tok) (t : Lx.Tok) : movCells by_ ts ++ movTok by_ t = movCells by_ (ts ++ [t]) := by simp [movCells]
theorem mov_shift (p q : Nat) (by_ : Int) (ts : List Lx.Tok) (h : (p : Int) + by_ = q) : movCells by_ (ts.map (Lx.shiftT p)) = toksCells (ts.map (Lx.shiftT q)) := by
  induction ts with
  | nil => rfl
  | cons t ts ih =>
    simp only [movCells, toksCells, List.map_cons, List.flatMap_cons] at ih ⊢
    rw [ih]
    congr 1
    simp only [movTok, tokCells, Lx.shiftT, List.cons.injEq, Value.int.injEq, true_and, and_true]
    constructor <;> omega
/-- small numbers. -/
def Sm (ts : List Lx.Tok) : Prop := ∀ t ∈ ts, t.a ≤ 1125899906842624 ∧ t.b ≤ 1125899906842624
theorem infoTok3 : (Try.prog.info? 27).map (·.size) = some 3 := by kernel_rfl
theorem own_keep {w w' : World} {B e size n : Nat} {v : Value} {xs : List Value} (h : w.ownsRow B e size v n xs) {o : Obj} (hb : Below (w.alloc o).heap.size (w.alloc o) w') : w'.ownsRow B e size v n xs := by
  have h := h.alloc o
  refine ⟨h.1, ?_⟩
  rcases h.2 with hn | ⟨g, cap, cur, rfl, hg, hgg, rest⟩
  · exact .inl hn
  · exact .inr ⟨g, cap, cur, rfl, hg, by rw [hb.block g (Array.getElem?_eq_some_iff.1 hgg).1]; exact hgg, rest⟩
theorem moved_any (k a b by_ : Int) (w : World) (ha : -2251799813685248 ≤ a ∧ a ≤ 2251799813685248) (hb : -2251799813685248 ≤ b ∧ b ≤ 2251799813685248) (hy : -2251799813685248 ≤ by_ ∧ by_ ≤ 2251799813685248) :
    Calls Try.prog 39 #[.agg #[.int .i64 k, .int .i64 a, .int .i64 b], .int .i64 by_] w fun e w' => e = .returned (.agg #[.int .i64 k, .int .i64 (a + by_), .int .i64 (b + by_)]) ∧ Below w.heap.size w w' := by
  obtain ⟨ha1, ha2⟩ := ha
  obtain ⟨hb1, hb2⟩ := hb
  obtain ⟨hy1, hy2⟩ := hy
  have n1 : (IntKind.i64.wrap (a + by_)) = a + by_ := by rw [IntKind.wrap_i64]; omega
  have n2 : (IntKind.i64.wrap (b + by_)) = b + by_ := by rw [IntKind.wrap_i64]; omega
  go_enter Try.func39, Try.ntmps39
  go_wp2
  refine bodyPost_ret (v := .agg #[.int .i64 k, .int .i64 (a + by_), .int .i64 (b + by_)]) ?_ rfl ⟨rfl, ((Below.refl _ _).alloc (Nat.le_refl _) _).alloc (by simp) _⟩
  exact results_cell_row rfl _ _ (w.heap.size + 1) 27 #[.int .i64 k, .int .i64 (a + by_), .int .i64 (b + by_)] (0, 0) _ rfl (heap_alloc2_new w _ _) Try.underlying27 rfl infoTok3
theorem own_form {w : World} {base : Nat} {e : TypeId} {size n : Nat} {v : Value} {xs : List Value} (h : w.ownsRow base e size v n xs) (hv : v ≠ .slice none 0 0) : ∃ g c, v = .slice (some ⟨g, 0, none⟩) n c := by
  rcases h.2 with ⟨h, _⟩ | ⟨g, cap, cur, rfl, _⟩
  · exact absurd h hv
  · exact ⟨g, cap, rfl⟩
theorem mov_plain (by_ : Int) (ts : List Lx.Tok) : ∀ u ∈ movCells by_ ts, u.oneCell' = true := by
  intro u hu
  simp only [movCells, List.mem_flatMap, movTok, List.mem_cons, List.mem_nil_iff, or_false] at hu
  obtain ⟨t, _, rfl | rfl | rfl⟩ := hu <;> rfl
theorem mov_len (by_ : Int) (ts : List Lx.Tok) : (movCells by_ ts).length = ts.length * 3 := by
  induction ts with
  | nil => rfl
  | cons t ts ih =>
    simp only [movCells, List.flatMap_cons, List.length_append, List.length_cons] at ih ⊢
    rw [ih]
    simp [movTok]
    omega
/-- what movedAll answers. -/
def MovPost (ts : List Lx.Tok) (by_ : Int) (w : World) (e : Ending) (w' : World) : Prop :=
  ∃ v, e = .returned v ∧ v ≠ .slice none 0 0 ∧ w'.ownsRow w.heap.size 27 3 v ts.length (movCells by_ ts) ∧ Below w.heap.size w w'
def MovRel (ts : List Lx.Tok) (by_ : Int) (w : World) (k : Nat) (v : Value) (wr : World) : Prop :=
  v ≠ .slice none 0 0 ∧ wr.ownsRow w.heap.size 27 3 v k (movCells by_ (ts.take k)) ∧ Below w.heap.size w wr
theorem mov_take (by_ : Int) {ts : List Lx.Tok} {k : Nat} {t : Lx.Tok} (h : ts[k]? = some t) : movCells by_ (ts.take k) ++ movTok by_ t = movCells by_ (ts.take (k + 1)) := by
  rw [mov_snoc, List.take_add_one, h]; rfl
set_option maxHeartbeats 2000000 in
theorem movedAll_any (v1 : Value) (ts : List Lx.Tok) (by_ : Int) (w : World) (B1 : Nat) (hB : B1 ≤ w.heap.size) (h1 : Rd w B1 3 v1 ts.length (toksCells ts)) (hl : ts.length ≤ 1099511627776) (hs : Sm ts) (hy : -2251799813685248 ≤ by_ ∧ by_ ≤ 2251799813685248) :
    Calls Try.prog 38 #[v1, .int .i64 by_] w (MovPost ts by_ w) := by
  obtain ⟨hl1, A1, c1, rfl, hc1, h1⟩ := h1
  obtain ⟨i0, hi, hz0, hz1, hz2⟩ := info_parts Try.infoTok
  obtain ⟨n, hn⟩ : ∃ n, n = ts.length := ⟨_, rfl⟩
  rw [← hn] at h1 hc1 hl ⊢
  have hmk := run_make (P := Try.prog) w 23 27 i0 _ Try.underlying23 hi hz0 .i64 .i64 0 n (by omega) (by omega) (by rw [hz2]; omega) (by omega)
  simp only [Int.toNat_zero, Int.toNat_natCast] at hmk
  have hst : MovRel ts by_ w 0 (.slice (some ⟨w.heap.size, 0, none⟩) 0 n) (w.alloc (.cells (madeCells (Value.agg #[.int .i64 0, .int .i64 0, .int .i64 0]).cells (n * i0.size)) 27)) := by
    refine ⟨by simp, ?_, (Below.refl _ _).alloc (Nat.le_refl _) _⟩
    have := World.ownsRow_made (e := 27) (size := 3) w (madeCells (Value.agg #[.int .i64 0, .int .i64 0, .int .i64 0]).cells (n * i0.size)) n (Nat.le_refl _) (by unfold maxLen; omega) (by rw [size_madeCells, hz1])
    simpa [movCells] using this
  have HST := Lib.hid hst
  have HH := Lib.hid h1
  have HN := Lib.hid hn
  have HSM := Lib.hid hs
  obtain ⟨hy1, hy2⟩ := hy
  clear h1 hn hl1 hst hs
  go_enter Try.func38, Try.ntmps38
  go_wp2
  go_loopw [5, 13] (fun v i wr => ∃ k : Nat, k ≤ n ∧ i = .int .i64 k ∧ MovRel ts by_ w k v wr) (fun _ i _ => n - (intOf i).toNat)
  case atStart => exact ⟨0, by omega, rfl, by have h := HST.out; rw [hz1] at h; exact h⟩
  case round =>
    obtain ⟨k, hk, rfl, hrel⟩ := hrel
    have HR := Lib.hid hrel
    have hsz : w.heap.size ≤ wr.heap.size := hrel.2.2.size
    clear hrel
    by_cases hlt : k < n
    · obtain ⟨g, o, rfl, hg, hr⟩ := HH.out (by omega)
      obtain ⟨t, ht, d0, d1, d2⟩ := rd_tok hr HN.out hlt
      have c0 := (HR.out.2.2.cell (p := ⟨g, o + k * 3, none⟩) (by show g < _; omega)).trans d0
      have c1 := (HR.out.2.2.cell (p := ⟨g, o + k * 3 + 1, none⟩) (by show g < _; omega)).trans d1
      have c2 := (HR.out.2.2.cell (p := ⟨g, o + k * 3 + 2, none⟩) (by show g < _; omega)).trans d2
      have hm := HSM.out t (List.mem_of_getElem? ht)
      have HM := Lib.hid (fun W => moved_any (t.kind : Int) (t.a : Int) (t.b : Int) by_ W (by omega) (by omega) ⟨hy1, hy2⟩)
      have HT := Lib.hid ht
      have hkn : (k : Int) < n := by omega
      clear hr ht d0 d1 d2 hm
      go_wp2_with (first | (go_at_call 39; with_reducible (refine (HM.out _).mono ?_); rintro e w' ⟨rfl, hb⟩; have HBB := Lib.hid hb; clear hb) | (at_builtin; refine wpList_append_own _ rfl _ _ 23 rfl w.heap.size 27 i0 _ 3 24 Try.underlying23 hi hz0 hz1 hz2 rfl (by decide) _ _ _ rfl ((own_keep HR.out.2.1 HBB.out).alloc _) ⟨_, 0, none⟩ 1 1 (movTok by_ t) rfl rfl (tok_news _ _ _ _) (tok_plain _ _ _) (by unfold maxLen; omega) (by omega) (by have := HBB.out.size; simp at this ⊢; omega) ?_; intro v' w1 hown' hgrow hnil))
      go_roundw
      case rel =>
        refine ⟨k + 1, by omega, by go_num, ?_, ?_, ?_⟩
        · intro e
          exact HR.out.1 (hnil.1 e).1
        · rw [← mov_take by_ HT.out]
          exact hown'
        · exact (((HR.out.2.2.alloc hsz _).trans (HBB.out.mono (by simp; omega))).alloc (by have := HBB.out.size; simp at this ⊢; omega) _).grown hgrow (by have := HBB.out.size; simp at this ⊢; omega) (fun g e => (HR.out.2.1.lt g e).1)
      case measure => simp [intOf]; omega
    · go_wp2
      go_ret
      have e : k = n := by omega
      subst e
      refine ⟨_, rfl, HR.out.1, ?_, HR.out.2.2⟩
      have h := HR.out.2.1
      rw [HN.out, List.take_length] at h
      exact h
/-- what open answers. -/
theorem open_any (p : ByteArray) (v1 : Value) (ts : List Lx.Tok) (w : World) (B1 : Nat) (hB : B1 ≤ w.heap.size) (h1 : Rd w B1 3 v1 ts.length (toksCells ts)) (hl : ts.length ≤ 1099511627776) (hp : p.size ≤ 1099511627776)
    (hin : ∀ t ∈ ts, t.a ≤ t.b ∧ t.b ≤ p.size) :
    Calls Try.prog 37 #[.string p, v1] w fun e w' => e = .returned (.bool (Lx.openB p.data.toList ts)) ∧ Below w.heap.size w w' := by
  obtain ⟨hl1, A1, c1, rfl, hc1, h1⟩ := h1
  rcases Nat.eq_zero_or_pos ts.length with h0 | h0
  · obtain rfl : ts = [] := List.eq_nil_of_length_eq_zero h0
    simp only [List.length_nil] at *
    clear h1 hl1 hin
    go_enter Try.func37, Try.ntmps37
    go_wp2
    go_ret
    exact ⟨rfl, Below.refl _ _⟩
  · obtain ⟨n, hn⟩ : ∃ n, ts.length = n + 1 := ⟨ts.length - 1, by omega⟩
    obtain ⟨g, o, rfl, hg, hr⟩ := h1 h0
    obtain ⟨t, ht, d0, d1, d2⟩ := rd_tok hr rfl (k := n) (by omega)
    have hm := hin t (List.mem_of_getElem? ht)
    have hlast : ts.getLast? = some t := by rw [List.getLast?_eq_getElem?, hn]; simpa using ht
    have hopen : Lx.openB p.data.toList ts = (decide (t.kind = 7) && Lx.opens ((p.data.toList.drop t.a).take (t.b - t.a))) := by unfold Lx.openB; rw [hlast]
    have HO := Lib.hid hopen
    have HW := Lib.hid (fun W => word_at p t.kind t.a t.b hm.1 hm.2 (by omega) W)
    have HP := Lib.hid (fun W => hasPrefix_any (p.extract t.a t.b) { data := #[40, 42] } W)
    rw [hn] at hc1 ⊢
    clear hr ht hlast hopen hl1 h1 hin hm
    by_cases h7 : t.kind = 7
    · have b7 : ((t.kind : Int) == 7) = true := by rw [beq_iff_eq]; omega
      have HO7 := Lib.hid (show Lx.openB p.data.toList ts = Lx.preB [40, 42] (p.extract t.a t.b).data.toList from by rw [HO.out, preB_two, ext_cut]; simp [h7])
      clear h7
      go_enter Try.func37, Try.ntmps37
      go_wp2_with (first | (go_at_call 30; with_reducible (refine (HW.out _).mono ?_); rintro e w' ⟨rfl, rfl⟩) | (go_at_call 27; with_reducible (refine (HP.out _).mono ?_); rintro e w' ⟨rfl, rfl⟩))
      go_ret
      exact ⟨ret_bool (by rw [HO7.out, ext_cut]), ((Below.refl _ _).alloc (Nat.le_refl _) _).alloc (by simp) _⟩
    · have b7 : ((t.kind : Int) == 7) = false := by rw [beq_eq_false_iff_ne]; omega
      have HO7 := Lib.hid (show Lx.openB p.data.toList ts = false from by rw [HO.out]; simp [h7])
      clear h7
      go_enter Try.func37, Try.ntmps37
      go_wp2
      go_ret
      exact ⟨ret_bool HO7.out.symm, (Below.refl _ _).alloc (Nat.le_refl _) _⟩
end Go.Proofs.Ytnmebingjpnlgaa
