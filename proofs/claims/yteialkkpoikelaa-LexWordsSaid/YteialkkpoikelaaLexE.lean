/- The contract of Lex: it answers the tokens that 'Lx.lexF' tells, in new memory. -/
import Derived.Test.YteialkkpoikelaaLexD
import Derived.Test.YteialkkpoikelaaLexG
import Derived.Maps.AppendAt
import Derived.WalkMore
namespace Go.Proofs.Yteialkkpoikelaa
open Go.RowKit Go.Lib
set_option maxRecDepth 100000

/-- a token's cells. -/
def tokCells (t : Lx.Tok) : List Value := [.int .i64 (t.kind : Int), .int .i64 (t.a : Int), .int .i64 (t.b : Int)]
def toksCells (ts : List Lx.Tok) : List Value := ts.flatMap tokCells
theorem toksCells_len (ts : List Lx.Tok) : (toksCells ts).length = ts.length * 3 := by
  induction ts with
  | nil => rfl
  | cons t ts ih =>
    simp only [toksCells, List.flatMap_cons, List.length_append, List.length_cons] at ih ⊢
    rw [ih]
    simp [tokCells]
    omega
theorem Try.infoTok : (Try.prog.info? 28).map (fun i => (i.zero, i.size, i.bytes)) = some (some (.agg #[.int .i64 0, .int .i64 0, .int .i64 0]), 3, 24) := by kernel_rfl

theorem preB_two (l : List UInt8) : Lx.preB [40, 42] l = Lx.opens l := by
  unfold Lx.preB
  match l with
  | [] => rfl
  | [a] => simp [Lx.opens, List.isPrefixOf]
  | a :: b :: t =>
    simp only [List.isPrefixOf, Bool.and_true, Lx.opens]
    rw [Bool.eq_iff_iff]
    simp only [Bool.and_eq_true, beq_iff_eq, decide_eq_true_eq]
    constructor
    · rintro ⟨rfl, rfl⟩; exact ⟨rfl, rfl⟩
    · rintro ⟨h1, h2⟩
      exact ⟨(UInt8.toNat_inj.1 (show a.toNat = (40 : UInt8).toNat from h1)).symm, (UInt8.toNat_inj.1 (show b.toNat = (42 : UInt8).toNat from h2)).symm⟩
theorem opens_at (s : ByteArray) (k : Nat) (w : World) : Calls Try.prog 20 #[.string (s.extract k s.size), .string { data := #[40, 42] }] w fun e w' => e = .returned (.bool (Lx.opens (s.data.toList.drop k))) ∧ w = w' := by
  have := hasPrefix_any (s.extract k s.size) { data := #[40, 42] } w
  rw [ext_toL] at this
  have e : Lx.preB (({ data := #[40, 42] } : ByteArray).data.toList) (s.data.toList.drop k) = Lx.opens (s.data.toList.drop k) := preB_two _
  rw [e] at this
  exact this

/-- what the loop of Lex keeps. -/
def LexRel (s : ByteArray) (w : World) (acc : List Lx.Tok) (k : Nat) (v : Value) (wr : World) : Prop :=
  wr.ownsRow w.heap.size 28 3 v acc.length (toksCells acc) ∧ Below w.heap.size w wr ∧ acc.length ≤ k ∧ acc ++ Lx.lexAt s.data.toList k = Lx.lexF s.data.toList
/-- what Lex answers. -/
def LexPost (s : ByteArray) (w : World) (e : Ending) (w' : World) : Prop :=
  ∃ v, e = .returned v ∧ w'.ownsRow w.heap.size 28 3 v (Lx.lexF s.data.toList).length (toksCells (Lx.lexF s.data.toList)) ∧ Below w.heap.size w w'
theorem rel_move {s : ByteArray} {w wr : World} {acc : List Lx.Tok} {k k' : Nat} {v : Value} (h : LexRel s w acc k v wr) (hk : k ≤ k') (e : Lx.lexAt s.data.toList k = Lx.lexAt s.data.toList k') : LexRel s w acc k' v wr :=
  ⟨h.1, h.2.1, by have := h.2.2.1; omega, by rw [← e]; exact h.2.2.2⟩
theorem toks_snoc (acc : List Lx.Tok) (t : Lx.Tok) : toksCells acc ++ tokCells t = toksCells (acc ++ [t]) := by
  simp [toksCells]
theorem tok_news {W : World} (t : TypeId) (a b c : Int) : ∀ (j : Nat) (u : Value), ([.int .i64 a, .int .i64 b, .int .i64 c] : List Value)[j]? = some u → (W.alloc (.cells #[.int .i64 a, .int .i64 b, .int .i64 c] t)).cell? ((⟨W.heap.size, 0, none⟩ : Addr).add j) = some u := by
  intro j u hj
  match j, hj with
  | 0, hj => simp at hj; subst hj; simp [Addr.add, go_sem]
  | 1, hj => simp at hj; subst hj; simp [Addr.add, go_sem]
  | 2, hj => simp at hj; subst hj; simp [Addr.add, go_sem]
theorem tok_plain (a b c : Int) : ∀ u ∈ ([.int .i64 a, .int .i64 b, .int .i64 c] : List Value), u.oneCell' = true := by
  intro u hu
  simp only [List.mem_cons, List.mem_nil_iff, or_false] at hu
  rcases hu with rfl | rfl | rfl <;> rfl

set_option maxHeartbeats 1000000 in
theorem lex_any (s : ByteArray) (hs : s.size ≤ 1099511627776) (w : World) : Calls Try.prog 11 #[.string s] w (LexPost s w) := by
  obtain ⟨i0, hi, hz0, hz1, hz2⟩ := info_parts Try.infoTok
  go_enter Try.func11, Try.ntmps11
  go_wp2
  go_step3
  go_wp2
  go_step3
  go_wp2
  go_loopw [3, 4] (fun v i wr => ∃ (k : Nat) (acc : List Lx.Tok), k ≤ s.size ∧ i = .int .i64 k ∧ LexRel s w acc k v wr) (fun _ i _ => s.size - (intOf i).toNat)
  case atStart => exact ⟨0, [], by omega, rfl, World.ownsRow_nil _ _ _ _, Below.refl _ _, by simp, rfl⟩
  case round =>
    obtain ⟨k, acc, hk, rfl, hrel⟩ := hrel
    have HR := Lib.hid hrel
    clear hrel
    have hal : acc.length ≤ k := HR.out.2.2.1
    have hsz : w.heap.size ≤ wr.heap.size := HR.out.2.1.size
    by_cases hlt : k < s.size
    · cases hw : Lx.isWhite s[k]
      · cases ho : Lx.opens (s.data.toList.drop k)
        · obtain ⟨kd, n, e1⟩ : ∃ kd n, Lx.tokF (s.data.toList.drop k) = (kd, n) := ⟨_, _, rfl⟩
          have hb := Lx.tok_bounds s[k] (s.data.toList.drop (k + 1))
          rw [← drop_at s k hlt, e1, List.length_drop, ← sz] at hb
          obtain ⟨hb1, hb2⟩ := hb
          have ha := Lx.at_tok s.data.toList k (by simpa using hlt) hw ho
          rw [e1] at ha
          have HA := Lib.hid ha
          have ht := token_any s k hlt (by omega) wr
          unfold TokPost at ht
          rw [e1] at ht
          have HT := Lib.hid ht
          have E1 := Lib.hid e1
          clear e1 ht ha
          go_wp2_with (first | (go_at_call 19; refine (isWhite_any _ _).mono ?_; rintro e w' ⟨rfl, rfl⟩) | (go_at_call 20; refine (opens_at s k _).mono ?_; rintro e w' ⟨rfl, rfl⟩) | (go_at_call 22; with_reducible (refine HT.out.mono ?_); rintro e w' ⟨rfl, rfl⟩) | (at_builtin; refine wpList_append_own _ rfl _ _ 24 rfl w.heap.size 28 i0 _ 3 24 Try.underlying24 hi hz0 hz1 hz2 rfl (by decide) _ _ _ rfl (HR.out.1.alloc _) ⟨wr.heap.size, 0, none⟩ 1 1 [.int .i64 (kd : Int), .int .i64 (k : Int), .int .i64 ((k : Int) + n)] rfl rfl (tok_news _ _ _ _) (tok_plain _ _ _) (by unfold maxLen; omega) (by omega) (by simp; omega) ?_; intro v' w1 hown' hgrow _))
          go_roundw
          case rel =>
            refine ⟨k + n, acc ++ [⟨kd, k, k + n⟩], by omega, by go_num, ?_, ?_, ?_, ?_⟩
            · rw [← toks_snoc, List.length_append]
              exact hown'
            · exact (HR.out.2.1.alloc (by omega) _).grown hgrow (by simp; omega) (fun g e => (HR.out.1.lt g e).1)
            · rw [List.length_append]; simp; omega
            · rw [List.append_assoc, List.singleton_append, ← HA.out]; exact HR.out.2.2.2
          case measure => simp [intOf]; omega
        · cases hr : Lx.remN 0 (s.data.toList.drop k) with
          | none =>
            have ha := Lx.at_none s.data.toList k (by simpa using hlt) hw ho hr
            have ht := remEnd_any s k ho hk (by omega) wr
            unfold remAns at ht
            rw [hr] at ht
            have HT := Lib.hid ht
            have HA := Lib.hid ha
            have H1 := Lib.hid hr
            clear ht ha hr
            go_wp2_with (first | (go_at_call 19; refine (isWhite_any _ _).mono ?_; rintro e w' ⟨rfl, rfl⟩) | (go_at_call 20; refine (opens_at s k _).mono ?_; rintro e w' ⟨rfl, rfl⟩) | (go_at_call 21; refine HT.out.mono ?_; rintro e w' ⟨rfl, rfl⟩) | (at_builtin; refine wpList_append_own _ rfl _ _ 24 rfl w.heap.size 28 i0 _ 3 24 Try.underlying24 hi hz0 hz1 hz2 rfl (by decide) _ _ _ rfl (HR.out.1.alloc _) ⟨wr.heap.size, 0, none⟩ 1 1 [.int .i64 7, .int .i64 (k : Int), .int .i64 (s.size : Int)] rfl rfl (tok_news _ _ _ _) (tok_plain _ _ _) (by unfold maxLen; omega) (by omega) (by simp; omega) ?_; intro v' w1 hown' hgrow _))
            rw [Exit.noGoto_ret]
            go_ret
            have e := HR.out.2.2.2
            rw [HA.out] at e
            refine ⟨_, rfl, ?_, (HR.out.2.1.alloc (by omega) _).grown hgrow (by simp; omega) (fun g e => (HR.out.1.lt g e).1)⟩
            rw [← e, ← toks_snoc, List.length_append]
            exact hown'
          | some n =>
            have ha := Lx.at_some s.data.toList k (by simpa using hlt) hw ho n hr
            have hb := Lx.rem_bounds _ _ _ (Nat.le_refl _) n hr
            rw [List.length_drop, ← sz] at hb
            obtain ⟨hb1, hb2⟩ := hb
            have ht := remEnd_any s k ho hk (by omega) wr
            unfold remAns at ht
            rw [hr] at ht
            have HT := Lib.hid ht
            have HA := Lib.hid ha
            have H1 := Lib.hid hr
            clear ht ha hr
            go_wp2_with (first | (go_at_call 19; refine (isWhite_any _ _).mono ?_; rintro e w' ⟨rfl, rfl⟩) | (go_at_call 20; refine (opens_at s k _).mono ?_; rintro e w' ⟨rfl, rfl⟩) | (go_at_call 21; refine HT.out.mono ?_; rintro e w' ⟨rfl, rfl⟩))
            go_roundw
            case rel => exact ⟨k + n, acc, by omega, by go_num, rel_move HR.out (by omega) HA.out⟩
            case measure => simp [intOf]; omega
      · go_wp2_with (first | (go_at_call 19; refine (isWhite_any _ _).mono ?_; rintro e w' ⟨rfl, rfl⟩))
        go_roundw
        case rel => exact ⟨k + 1, acc, by omega, by go_num, rel_move HR.out (by omega) (Lx.at_white _ _ (by simpa using hlt) hw)⟩
        case measure => simp [intOf]; omega
    · go_wp2
      rw [Exit.noGoto_ret]
      go_ret
      have e := HR.out.2.2.2
      rw [Lx.at_end _ _ (by rw [← sz]; omega), List.append_nil] at e
      refine ⟨_, rfl, ?_, HR.out.2.1⟩
      rw [← e]
      exact HR.out.1
end Go.Proofs.Yteialkkpoikelaa
