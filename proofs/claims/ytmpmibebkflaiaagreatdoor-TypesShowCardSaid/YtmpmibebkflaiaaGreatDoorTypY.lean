/- Rows of bytes that grow: what an append leaves, and where; strconv.AppendInt at base 10. The contract of strconv.AppendInt at base 10, numbers from 1 on. The text of a type, plain. The contract of types' part over that of write. The contract of types' list over that of write. -/
import Derived.Test.YtmpmibebkflaiaaGreatDoorBytes
import Derived.Test.YtmpmibebkflaiaaGreatDoorShelfT
import Derived.Test.YtmpmibebkflaiaaGreatDoorTypL
import Derived.Lib.AppendStr
import Derived.Lib.AppendIntMem
import Derived.Lib.ItoaMem
import Derived.Lib.Slices
import Derived.Lib.SmallJoins
import Derived.Maps.RangeWalk
import Derived.Deep.RegionLaw
import Derived.Deep.AppendLies
import Derived.Test.YtmpmibebkflaiaaGreatDoorTypC
import Derived.Lib.ItoaNum
import Derived.Test.YtmpmibebkflaiaaGreatDoorTypE
namespace Go.Proofs.YtmpmibebkflaiaaGreatDoor
open Go.RowKit Go.Lib Go.Shelf Go.Sort
set_option maxRecDepth 100000
set_option linter.unusedVariables false
set_option linter.unusedSectionVars false

/-- only v's own row has turned, and v' lies there or in a new block. -/
def Wr (w : World) (v : Value) (w' : World) (v' : Value) : Prop := w.grownBy w' v.ownBlock ∧ (v'.ownBlock = v.ownBlock ∨ ∀ g, v'.ownBlock = some g → w.heap.size ≤ g)
theorem Wr.refl (w : World) (v : Value) : Wr w v w v := ⟨⟨rfl, rfl, rfl, Nat.le_refl _, fun _ _ _ => rfl⟩, .inl rfl⟩
theorem Wr.trans {w w1 w2 : World} {v v1 v2 : Value} (h : Wr w v w1 v1) (k : Wr w1 v1 w2 v2) : Wr w v w2 v2 := by
  refine ⟨⟨k.1.os.trans h.1.os, k.1.tape.trans h.1.tape, k.1.output.trans h.1.output, Nat.le_trans h.1.size k.1.size, fun j hj hne => ?_⟩, ?_⟩
  · refine (k.1.block j (Nat.lt_of_lt_of_le hj h.1.size) (fun e => ?_)).trans (h.1.block j hj hne)
    rcases h.2 with h2 | h2
    · exact hne (by rw [← h2]; exact e)
    · have := h2 j e.symm; omega
  · rcases k.2 with k2 | k2
    · rw [k2]; exact h.2
    · exact .inr fun g hg => Nat.le_trans h.1.size (k2 g hg)
theorem Wr.still {w w' : World} (h : w.grownBy w' none) (v : Value) : Wr w v w' v := ⟨h.but _, .inl rfl⟩
theorem Wr.alloc (w : World) (o : Obj) (v : Value) : Wr w v (w.alloc o) v := Wr.still (World.grownBy_alloc w o none) v
theorem Wr.drew (w : World) (v : Value) : Wr w v w.drew v := ⟨⟨rfl, rfl, rfl, Nat.le_refl _, fun _ _ _ => rfl⟩, .inl rfl⟩
/-- a row of bytes of a call's own. -/
def BRow (B : Nat) (l : List UInt8) (v : Value) (w : World) : Prop := w.ownsRow B 5 1 v l.length (bytesV l)
theorem BRow.below {B : Nat} {l : List UInt8} {v v' : Value} {w w' : World} (h : BRow B l v w) (k : Wr w v w' v') (hB : B ≤ w.heap.size) : Below B w w' :=
  (Below.refl B w).grown k.1 hB (fun j e => (h.lt j e).1)
theorem BRow.nil (B : Nat) (w : World) : BRow B [] (.slice none 0 0) w := World.ownsRow_nil _ _ _ _
theorem infoU8 : (Tryz.prog.info? 5).map (fun i => (i.zero, i.size, i.bytes)) = some (some (.int .u8 0), 1, 1) := by kernel_rfl
theorem strCells_bytes (s : ByteArray) : strCells s = bytesV s.data.toList := by
  unfold strCells bytesV byteV
  simp
section
variable {w : World}
theorem run_append_str (base : Nat) (ty : TypeId) (v : Value) (l : List UInt8) (hown : BRow base l v w) (s : ByteArray) (hlim : l.length + s.size ≤ 140737488355328) (hbase : base ≤ w.heap.size) :
    ∃ v' w', (Builtin.append_ #[47, 9] ty #[v, .string s]).run Tryz.prog w = .ok v' w' ∧ BRow base (l ++ s.data.toList) v' w' ∧ Wr w v w' v' := by
  obtain ⟨i, hi, hz, h1, h2⟩ := info_parts infoU8
  obtain ⟨v', w', hr, ho, hg, -⟩ := run_append_own_string (P := Tryz.prog) w base 47 9 ty 5 i Tryz.underlying47 Tryz.underlying9 hi hz h1 h2 v l.length (bytesV l) hown s (by unfold maxLen; omega) hlim hbase
  refine ⟨v', w', hr, by unfold BRow; rw [List.length_append, ← bytesV_app, ← strCells_bytes]; exact ho, hg, ?_⟩
  rcases hown.2 with ⟨rfl, h0⟩ | ⟨g, cap, cur, rfl, hbg, hgg, hnc, hcm, hcs, htake⟩
  · have hx : l.length = 0 := h0
    obtain ⟨v2, w2, hr2, ho2, -, -⟩ := run_append_own_string (P := Tryz.prog) w w.heap.size 47 9 ty 5 i Tryz.underlying47 Tryz.underlying9 hi hz h1 h2 _ 0 [] (World.ownsRow_nil _ _ _ _) s (by unfold maxLen; omega) (by omega) (Nat.le_refl _)
    have e2 := hr.symm.trans hr2
    simp only [Result.ok.injEq] at e2
    rw [e2.1]
    exact .inr fun g hg => (ho2.lt g hg).1
  · by_cases hroom : l.length + s.size ≤ cap
    · have hr2 := run_append_room_string (P := Tryz.prog) w 47 9 ty 5 i Tryz.underlying47 Tryz.underlying9 hi h1 g l.length cap cur hgg s hroom (by rw [hcs]; omega)
      have e2 := hr.symm.trans hr2
      simp only [Result.ok.injEq] at e2
      rw [e2.1]
      exact .inl rfl
    · have hr2 := run_append_grow_string (P := Tryz.prog) w 47 9 ty 5 i _ Tryz.underlying47 Tryz.underlying9 hi hz ⟨g, 0, none⟩ l.length cap (bytesV l) (by rw [h1]; exact hown.1) (hown.cells (g := g) rfl) s (by omega) (by omega) (by rw [h2]; exact growslice_fits (by omega) (by omega))
      have e2 := hr.symm.trans hr2
      simp only [Result.ok.injEq] at e2
      rw [e2.1]
      exact .inr fun g' hg' => by
        simp only [Value.ownBlock, Option.some.injEq] at hg'
        omega
theorem run_append_bs (base : Nat) (ty : TypeId) (v : Value) (l : List UInt8) (hown : BRow base l v w) (ad : Addr) (c : Nat) (m : List UInt8) (hnews : ∀ j u, (bytesV m)[j]? = some u → w.cell? (ad.add j) = some u) (hlim : l.length + m.length ≤ 140737488355328) (hbase : base ≤ w.heap.size) :
    ∃ v' w', (Builtin.append_ #[47, 47] ty #[v, .slice (some ad) m.length c]).run Tryz.prog w = .ok v' w' ∧ BRow base (l ++ m) v' w' ∧ Wr w v w' v' := by
  obtain ⟨i, hi, hz, h1, h2⟩ := info_parts infoU8
  obtain ⟨v', w', hr, ho, hg, -, hl⟩ := run_append_own_at (P := Tryz.prog) w base 47 ty 5 i _ 1 1 Tryz.underlying47 hi hz h1 h2 rfl (by decide) v l.length (bytesV l) hown ad m.length c (bytesV m) (by rw [bytesV_len, Nat.mul_one]) hnews (bytesV_plain m) (by unfold maxLen; omega) (by omega) hbase
  refine ⟨v', w', hr, by unfold BRow; rw [List.length_append, ← bytesV_app]; exact ho, hg, ?_⟩
  rcases hl with h | h
  · exact .inl h
  · exact .inr fun g hg' => by rw [h] at hg'; cases hg'; exact Nat.le_refl _
variable {ops : Array Oper} {rest : List Oper} {o : Oper} {a : Act} {Q : Exit → Act → World → Prop} {K : Act → World → Prop} {E : Prop}
theorem wp_append_str (s x : Operand) (ho : o.op = .call { callee := .builtin .append, args := #[s, x], argTypes := #[47, 9] })
    (base : Nat) (v : Value) (l : List UInt8) (hs : a.eval s = v) (hown : BRow base l v w) (z : ByteArray) (hx : a.eval x = .string z) (hlim : l.length + z.size ≤ 140737488355328) (hbase : base ≤ w.heap.size)
    (h : ∀ v' w', BRow base (l ++ z.data.toList) v' w' → Wr w v w' v' → K (a.put o.dst v') w') : o.wp Tryz.prog a w K Q := by
  obtain ⟨v', w', hr, h2, h3⟩ := run_append_str base o.type v l hown z hlim hbase
  unfold Oper.wp execOp
  simp only [ho, resolve, invoke, builtin, Sem.run_bind, Sem.run_pure, Result.andThen_ok, List.map_toArray, List.map_cons, List.map_nil, hs, hx, hr]
  exact h v' w' h2 h3
theorem wp_append_bs (s x : Operand) (ho : o.op = .call { callee := .builtin .append, args := #[s, x], argTypes := #[47, 47] })
    (base : Nat) (v : Value) (l : List UInt8) (hs : a.eval s = v) (hown : BRow base l v w) (ad : Addr) (n c : Nat) (m : List UInt8) (hx : a.eval x = .slice (some ad) n c) (hm : m.length = n) (hnews : ∀ j u, (bytesV m)[j]? = some u → w.cell? (ad.add j) = some u) (hlim : l.length + n ≤ 140737488355328) (hbase : base ≤ w.heap.size)
    (h : ∀ v' w', BRow base (l ++ m) v' w' → Wr w v w' v' → K (a.put o.dst v') w') : o.wp Tryz.prog a w K Q := by
  subst hm
  obtain ⟨v', w', hr, h2, h3⟩ := run_append_bs base o.type v l hown ad c m hnews hlim hbase
  unfold Oper.wp execOp
  simp only [ho, resolve, invoke, builtin, Sem.run_bind, Sem.run_pure, Result.andThen_ok, List.map_toArray, List.map_cons, List.map_nil, hs, hx, hr]
  exact h v' w' h2 h3
theorem wpList_append_str (hgd : o.guard = none) (s x : Operand) (ho : o.op = .call { callee := .builtin .append, args := #[s, x], argTypes := #[47, 9] })
    (base : Nat) (v : Value) (l : List UInt8) (hs : a.eval s = v) (hown : BRow base l v w) (z : ByteArray) (hx : a.eval x = .string z) (hlim : l.length + z.size ≤ 140737488355328) (hbase : base ≤ w.heap.size)
    (h : ∀ v' w', BRow base (l ++ z.data.toList) v' w' → Wr w v w' v' → wpList Tryz.prog ops Q rest (a.put o.dst v') w') : wpList Tryz.prog ops Q (o :: rest) a w :=
  wpList_plain hgd fun _ hK => wp_append_str s x ho base v l hs hown z hx hlim hbase fun v' w' h2 h3 => hK _ _ (h v' w' h2 h3)
theorem wpList_append_bs (hgd : o.guard = none) (s x : Operand) (ho : o.op = .call { callee := .builtin .append, args := #[s, x], argTypes := #[47, 47] })
    (base : Nat) (v : Value) (l : List UInt8) (hs : a.eval s = v) (hown : BRow base l v w) (ad : Addr) (n c : Nat) (m : List UInt8) (hx : a.eval x = .slice (some ad) n c) (hm : m.length = n) (hnews : ∀ j u, (bytesV m)[j]? = some u → w.cell? (ad.add j) = some u) (hlim : l.length + n ≤ 140737488355328) (hbase : base ≤ w.heap.size)
    (h : ∀ v' w', BRow base (l ++ m) v' w' → Wr w v w' v' → wpList Tryz.prog ops Q rest (a.put o.dst v') w') : wpList Tryz.prog ops Q (o :: rest) a w :=
  wpList_plain hgd fun _ hK => wp_append_bs s x ho base v l hs hown ad n c m hx hm hnews hlim hbase fun v' w' h2 h3 => hK _ _ (h v' w' h2 h3)
/-- .. as a step of a region that draws. -/
theorem step_append_str (hgd : o.guard = none) (s x : Operand) (ho : o.op = .call { callee := .builtin .append, args := #[s, x], argTypes := #[47, 9] })
    (base : Nat) (v : Value) (l : List UInt8) (hs : a.eval s = v) (hown : BRow base l v w) (z : ByteArray) (hx : a.eval x = .string z) (hlim : l.length + z.size ≤ 140737488355328) (hbase : base ≤ w.heap.size)
    (h : ∀ v' w', BRow base (l ++ z.data.toList) v' w' → Wr w v w' v' → K (a.put o.dst v') w') : if Region.wanted o (yielded ops a.tmps) = true then Oper.wp Tryz.prog o a w K Q else E := by
  rw [if_pos (by simp [Region.wanted, hgd])]
  exact wp_append_str s x ho base v l hs hown z hx hlim hbase h
theorem step_append_bs (hgd : o.guard = none) (s x : Operand) (ho : o.op = .call { callee := .builtin .append, args := #[s, x], argTypes := #[47, 47] })
    (base : Nat) (v : Value) (l : List UInt8) (hs : a.eval s = v) (hown : BRow base l v w) (ad : Addr) (n c : Nat) (m : List UInt8) (hx : a.eval x = .slice (some ad) n c) (hm : m.length = n) (hnews : ∀ j u, (bytesV m)[j]? = some u → w.cell? (ad.add j) = some u) (hlim : l.length + n ≤ 140737488355328) (hbase : base ≤ w.heap.size)
    (h : ∀ v' w', BRow base (l ++ m) v' w' → Wr w v w' v' → K (a.put o.dst v') w') : if Region.wanted o (yielded ops a.tmps) = true then Oper.wp Tryz.prog o a w K Q else E := by
  rw [if_pos (by simp [Region.wanted, hgd])]
  exact wp_append_bs s x ho base v l hs hown ad n c m hx hm hnews hlim hbase h
end
end Go.Proofs.YtmpmibebkflaiaaGreatDoor
namespace Go.Proofs.YtmpmibebkflaiaaGreatDoor
open Go.RowKit Go.Lib Go.Shelf Go.Sort
set_option maxRecDepth 100000
set_option linter.unusedVariables false
set_option linter.unusedSectionVars false

def PowB (B : Nat) (w : World) : Prop := Lib.TabBelow Tryz.prog B w "internal/strconv.uint64pow10" .u64 Lib.pow10Tab
/-- what a call answers that writes behind bytes. -/
def BPost (B : Nat) (L : List UInt8) (v : Value) (w : World) (e : Ending) (w' : World) : Prop := ∃ v', e = .returned v' ∧ RowKit.Hid (BRow B L v' w') ∧ RowKit.Hid (Wr w v w' v')
theorem BPost.same {B : Nat} {L L' : List UInt8} {v : Value} {w : World} {e : Ending} {w' : World} (h : BPost B L v w e w') (hL : L = L') : BPost B L' v w e w' := hL ▸ h
theorem appendUint_small (B : Nat) (l : List UInt8) (v : Value) (u : Nat) (w : World) (hu : u < 100) (hown : BRow B l v w) (hB : B ≤ w.heap.size) (hlim : l.length ≤ 1099511627776) :
    Calls Tryz.prog 68 #[v, .int .u64 u, .int .i64 10] w (BPost B (l ++ Lib.decDigits u) v w) := by
  have HO := Lib.hid hown
  have hd : (Lib.decDigits u).length ≤ 2 := by
    rw [Lib.decDigits_length]
    by_cases h10 : u < 10
    · rw [Lib.nDigits_small h10]; omega
    · rw [Lib.nDigits_big h10, Lib.nDigits_small (show u / 10 < 10 by omega)]
      omega
  have hsz : (⟨(Lib.decDigits u).toArray⟩ : ByteArray).size = (Lib.decDigits u).length := by simp [ByteArray.size]
  have HS := Lib.hid (fun W => Any.internal_strconv_small Tryz.lays283 u hu W)
  have HZ := Lib.hid hsz
  clear hown hsz
  go_enter Tryz.func68, Tryz.ntmps68
  go_wp2_with (first | (go_at_call 78; refine (HS.out _).mono ?_; rintro e w1 ⟨rfl, rfl⟩) | (at_builtin; refine wpList_append_str rfl _ _ rfl B _ l rfl HO.out ⟨(Lib.decDigits u).toArray⟩ rfl (by rw [HZ.out]; omega) hB ?_; intro v' w2 hr hw; have HR := Lib.hid hr; have HW := Lib.hid hw; clear hr hw))
  go_ret
  exact ⟨_, rfl, by simpa [RowKit.Hid] using HR.out, HW.out⟩
theorem byteCells_bytes (l : List UInt8) : Lib.byteCells l = bytesV l := rfl
set_option maxHeartbeats 4000000 in
theorem appendUint_big (B : Nat) (l : List UInt8) (v : Value) (u : Nat) (w : World) (hu : 100 ≤ u) (hu2 : u < 9223372036854775808) (hown : BRow B l v w) (hB : B ≤ w.heap.size) (hlim : l.length ≤ 1099511627776) (hT : PowB B w) :
    Calls Tryz.prog 68 #[v, .int .u64 u, .int .i64 10] w (BPost B (l ++ Lib.decDigits u) v w) := by
  have hu1 : 1 ≤ u := by omega
  have hu64 : u < 18446744073709551616 := by omega
  have hnd : Lib.nDigits u ≤ 20 := by have := Lib.numDigits_eq u hu1 hu64; split at this <;> omega
  have hal : Tryz.prog.arrayLen 91 = 24 := by kernel_rfl
  have hel : Tryz.prog.elem 91 = Tryz.prog.elem 91 := rfl
  have hA : Below B w (w.alloc (.cells Lib.zeros24 91)) := (Below.refl _ _).alloc hB _
  have HND := Lib.hid (Any.internal_strconv_numDigits Tryz.laysM284 u hu1 hu64 (w.alloc (.cells Lib.zeros24 91)) (hT _ hA))
  have hH0 := Lib.holds_zero0 w 91 (Lib.nDigits u) (by omega)
  have hfmt := Any.internal_strconv_formatBase10 Tryz.lays285 w.heap.size 0 24 u (Array.replicate (Lib.nDigits u) 0) (w.alloc (.cells Lib.zeros24 91)) hH0 (by rw [Array.size_replicate]; exact Lib.lt_pow_nDigits u) hu64 (by rw [Array.size_replicate]; omega)
  rw [Array.size_replicate] at hfmt
  have HFM := Lib.hid hfmt
  have HH0 := Lib.hid hH0
  have HO := Lib.hid hown
  have hsl : ∀ W, (Instr.sliceAt 91 (.pointer (some ⟨w.heap.size, 0, none⟩)) none (some (.int .i64 (Lib.nDigits u : Int))) none).run Tryz.prog W = .ok (.slice (some ⟨w.heap.size, 0, none⟩) (Lib.nDigits u) 24) W := fun W => by
    rw [run_sliceAt_array_h W 91 ⟨w.heap.size, 0, none⟩ (by kernel_rfl) .i64 (Lib.nDigits u : Int) (by omega) (by rw [hal]; omega)]
    rw [hal]
    go_simp
  have iu : (100 : Int) ≤ (u : Int) := by omega
  clear hown hH0 hfmt hal hel hA hT
  go_enter Tryz.func68, Tryz.ntmps68
  go_wp2_with (go_at_call 79; refine HND.out.mono ?_; rintro e w1 ⟨rfl, rfl⟩)
  go_at_call 80
  refine HFM.out.mono ?_
  rintro e w1 ⟨rfl, k, v', dk, rfl, hF⟩
  obtain ⟨os, eo⟩ := Lib.fin_at w (.cells Lib.zeros24 91) dk k 0
  obtain ⟨W2, hW2⟩ : ∃ W2, W2 = (putRow (fun (b : UInt8) => Value.int .u8 (b.toNat : Int)) (w.alloc (.cells Lib.zeros24 91)) w.heap.size 0 dk).drewN k := ⟨_, rfl⟩
  have hcells : ∀ j u', (bytesV (Lib.decDigits u))[j]? = some u' → W2.cell? ((⟨w.heap.size, 0, none⟩ : Addr).add j) = some u' := by
    intro j u' hj
    have hjl : j < (Lib.decDigits u).length := by
      have h5 := (List.getElem?_eq_some_iff.1 hj).1
      rwa [bytesV_len] at h5
    rw [bytesV_get _ j hjl] at hj
    cases hj
    have hd := Lib.row_is_numeral hF j hjl
    rw [hd, hW2, add_off, World.cell?_drewN]
    exact cell?_putRow (fun (b : UInt8) => Value.int .u8 (b.toNat : Int)) _ w.heap.size 0 _ dk HH0.out (by rw [hF.size, Array.size_replicate]) j (by rw [hF.size]; rw [Lib.decDigits_length] at hjl; exact hjl)
  have hwr : Below w.heap.size w W2 := by rw [hW2, eo]; exact Lib.below_grow w.heap.size w (Nat.le_refl _) k os
  rw [← hW2]
  have hw1 : Wr w v W2 v := ⟨⟨hwr.os, hwr.tape, hwr.output, hwr.size, fun j hj _ => hwr.block j hj⟩, .inl rfl⟩
  have ho2 : BRow B l v W2 := by
    refine ⟨HO.out.1, ?_⟩
    rcases HO.out.2 with h | ⟨g, cap, cur, rfl, hg, hgg, rest⟩
    · exact .inl h
    · exact .inr ⟨g, cap, cur, rfl, hg, by rw [hwr.block g (Array.getElem?_eq_some_iff.1 hgg).1]; exact hgg, rest⟩
  have HC := Lib.hid hcells
  have HW1 := Lib.hid hw1
  have HO2 := Lib.hid ho2
  have hs2 := hwr.size
  have HDL := Lib.hid (Lib.decDigits_length u)
  clear hcells hw1 ho2 hwr eo hW2 hF HH0 HFM HND
  go_wp2_with (at_builtin; refine wpList_append_bs rfl _ _ rfl B _ l rfl HO2.out ⟨w.heap.size, 0, none⟩ (Lib.nDigits u) 24 (Lib.decDigits u) rfl HDL.out HC.out (by omega) (by omega) ?_; intro v2 w2 hr hw; have HR := Lib.hid hr; have HW := Lib.hid (HW1.out.trans hw); clear hr hw)
  go_ret
  exact ⟨_, rfl, HR.out, HW.out⟩
theorem appendUint_any (B : Nat) (l : List UInt8) (v : Value) (u : Nat) (w : World) (hu2 : u < 9223372036854775808) (hown : BRow B l v w) (hB : B ≤ w.heap.size) (hlim : l.length ≤ 1099511627776) (hT : PowB B w) :
    Calls Tryz.prog 68 #[v, .int .u64 u, .int .i64 10] w (BPost B (l ++ Lib.decDigits u) v w) := by
  by_cases h : u < 100
  · exact appendUint_small B l v u w h hown hB hlim
  · exact appendUint_big B l v u w (by omega) hu2 hown hB hlim hT
theorem appendInt_any (B : Nat) (l : List UInt8) (v : Value) (u : Nat) (w : World) (hu2 : u < 9223372036854775808) (hown : BRow B l v w) (hB : B ≤ w.heap.size) (hlim : l.length ≤ 1099511627776) (hT : PowB B w) :
    Calls Tryz.prog 34 #[v, .int .i64 u, .int .i64 10] w (BPost B (l ++ Lib.decDigits u) v w) := by
  have HU := Lib.hid (appendUint_any B l v u w hu2 hown hB hlim hT)
  have hI : Calls Tryz.prog 47 #[v, .int .i64 u, .int .i64 10] w (BPost B (l ++ Lib.decDigits u) v w) := by
    have hnn : ¬ (u : Int) < 0 := by omega
    go_enter Tryz.func47, Tryz.ntmps47
    go_wp2_with (go_at_call 68; refine HU.out.mono ?_; rintro e w1 ⟨v2, rfl, h1, h2⟩)
    go_ret
    exact ⟨_, rfl, h1, h2⟩
  have HI := Lib.hid hI
  clear hI
  go_enter Tryz.func34, Tryz.ntmps34
  go_wp2_with (go_at_call 47; refine HI.out.mono ?_; rintro e w1 ⟨v2, rfl, h1, h2⟩)
  go_ret
  exact ⟨_, rfl, h1, h2⟩
end Go.Proofs.YtmpmibebkflaiaaGreatDoor
namespace Go.Proofs.YtmpmibebkflaiaaGreatDoor
namespace Tp
open Ty
/-- in brackets, if its kind is one of these. -/
def br (ks : List Int) (p : Int × List UInt8) : List UInt8 := if ks.contains p.1 then 40 :: p.2 ++ [41] else p.2
def joinB (sep : List UInt8) (ks : List Int) : List (Int × List UInt8) → List UInt8
  | [] => []
  | [p] => br ks p
  | p :: q :: r => br ks p ++ sep ++ joinB sep ks (q :: r)
def varB (n : Int) : List UInt8 := [39, 97 + (n % 26).toNat.toUInt8] ++ if 26 ≤ n then Lib.decDigits (n / 26).toNat else []
def headB (k n : Int) (s : List UInt8) (ps : List (Int × List UInt8)) : List UInt8 :=
  if k = 1 then varB n
  else if k = 3 then joinB [32, 42, 32] [3, 4] ps
  else if k = 4 then (match ps with | p :: q :: _ => br [4] p ++ [32, 45, 62, 32] ++ q.2 | _ => [])
  else (match ps with | [] => s | [p] => br [3, 4] p ++ [32] ++ s | ps => [40] ++ joinB [44, 32] [] ps ++ [41, 32] ++ s)
mutual
def writeB : Ty → List UInt8
  | .mk k n s xs => headB k n s.data.toList (texts xs)
def texts : List Ty → List (Int × List UInt8)
  | [] => []
  | t :: ts => (t.kind, writeB t) :: texts ts
end
theorem writeB_eq (t : Ty) : writeB t = headB t.kind t.num t.name.data.toList (texts t.args) := by cases t; rw [writeB]; rfl
theorem texts_eq (l : List Ty) : texts l = l.map (fun t => (t.kind, writeB t)) := by
  induction l with
  | nil => rw [texts]; rfl
  | cons a l ih => rw [texts, ih]; rfl
def pieceB (ks : List Int) (t : Ty) : List UInt8 := br ks (t.kind, writeB t)
theorem joinB_snoc (sep : List UInt8) (ks : List Int) (ps : List (Int × List UInt8)) (p : Int × List UInt8) : joinB sep ks (ps ++ [p]) = joinB sep ks ps ++ (if ps = [] then [] else sep) ++ br ks p := by
  induction ps with
  | nil => simp [joinB]
  | cons q ps ih =>
    cases ps with
    | nil => simp [joinB]
    | cons r ps =>
      rw [List.cons_append, List.cons_append, joinB, ← List.cons_append, ih, joinB]
      simp
theorem br_len (ks : List Int) (p : Int × List UInt8) : p.2.length ≤ (br ks p).length ∧ (br ks p).length ≤ p.2.length + 2 := by
  unfold br
  split
  · simp; omega
  · omega
end Tp
end Go.Proofs.YtmpmibebkflaiaaGreatDoor
namespace Go.Proofs.YtmpmibebkflaiaaGreatDoor
open Go.RowKit Go.Lib Tp
set_option maxRecDepth 100000
set_option linter.unusedVariables false
set_option linter.unusedSectionVars false

def WriteAt (B : Nat) (t : Ty) : Prop := ∀ (s v : Value) (l : List UInt8) (w : World), B ≤ w.heap.size → BRow B l v w → IsA w (fun g => g < B) t.args s → l.length + (writeB t).length ≤ 1099511627776 → PowB B w →
  Calls Tryz.prog 25 #[v, tv t s] w (BPost B (l ++ writeB t) v w)
theorem IsA.bel {B : Nat} {ls : List Ty} {s : Value} {w w' : World} (h : IsA w (fun g => g < B) ls s) (hb : Below B w w') : IsA w' (fun g => g < B) ls s := h.same fun g hg => hb.block g hg
theorem news1 {W' : World} {b : UInt8} {x : Int} {e : TypeId} {B : Nat} (hx : x = (b.toNat : Int)) (hk : W'.heap[B]? = some (.cells #[.int .u8 x] e)) : ∀ (j : Nat) (u : Value), (bytesV [b])[j]? = some u → W'.cell? ((⟨B, 0, none⟩ : Addr).add j) = some u := by
  intro j u hj
  match j, hj with
  | 0, hj =>
    simp [bytesV, byteV] at hj
    subst hj
    rw [← hx]
    simp [Addr.add, World.cell?, hk]
  | j + 1, hj => simp [bytesV] at hj
theorem BRow.alloc {B : Nat} {l : List UInt8} {v : Value} {w : World} (h : BRow B l v w) (o : Obj) : BRow B l v (w.alloc o) := World.ownsRow.alloc h o
theorem BRow.drew {B : Nat} {l : List UInt8} {v : Value} {w : World} (h : BRow B l v w) : BRow B l v w.drew := h
theorem lit_new (W : World) (x : Int) (e : TypeId) (n : Nat) (hn : n = W.heap.size) : (W.alloc (.cells #[.int .u8 x] e)).heap[n]? = some (.cells #[.int .u8 x] e) := by
  subst hn
  exact heap_alloc_new W _
theorem lit_on {W : World} {n : Nat} {x : Obj} (h : W.heap[n]? = some x) (o : Obj) : (W.alloc o).heap[n]? = some x := (Below.heap_alloc W o n (Array.getElem?_eq_some_iff.1 h).1).trans h
theorem lit_d {W : World} {n : Nat} {x : Obj} (h : W.heap[n]? = some x) : W.drew.heap[n]? = some x := h
theorem Wr.ne {X w1 : World} {v v1 : Value} (h : Wr X v w1 v1) {b : Nat} (hv : v.ownBlock ≠ some b) (hb : b < X.heap.size) : v1.ownBlock ≠ some b := by
  rcases h.2 with h2 | h2
  · rw [h2]; exact hv
  · intro e
    have := h2 b e
    omega
theorem BRow.ne {B : Nat} {l : List UInt8} {v : Value} {w : World} (h : BRow B l v w) {b : Nat} (hb : w.heap.size ≤ b) : v.ownBlock ≠ some b := fun e => by
  have := (h.lt b e).2
  omega
theorem lit_kept {Y w2 : World} {v1 v2 : Value} {b : Nat} {o : Obj} (hk : Y.heap[b]? = some o) (hw : Wr Y v1 w2 v2) (hne : v1.ownBlock ≠ some b) : w2.heap[b]? = some o :=
  (hw.1.block b (Array.getElem?_eq_some_iff.1 hk).1 (fun e => hne e.symm)).trans hk
set_option maxHeartbeats 4000000 in
theorem part_any (B : Nat) (t : Ty) (s v kv : Value) (l : List UInt8) (ks : List Int) (w : World) (Bk : Nat) (hW : WriteAt B t) (hB : B ≤ w.heap.size) (ho : BRow B l v w) (hA : IsA w (fun g => g < B) t.args s)
    (hlen : l.length + (pieceB ks t).length ≤ 1099511627776) (hT : PowB B w) (hk : Rd w Bk 1 kv ks.length (intsC ks)) (hkl : ks.length ≤ 100) :
    Calls Tryz.prog 36 #[v, tv t s, kv] w (BPost B (l ++ pieceB ks t) v w) := by
  obtain ⟨A, c, rfl, hc⟩ := hA.form
  obtain ⟨M, hM⟩ : ∃ M, M = w.alloc (.cells #[.int .i64 t.kind, .int .i64 t.num, .string t.name, .slice A t.args.length c] 24) := ⟨_, rfl⟩
  have hMb : Below w.heap.size w M := by rw [hM]; exact (Below.refl _ _).alloc (Nat.le_refl _) _
  have hMw : Wr w v M v := by rw [hM]; exact Wr.alloc w _ v
  have hMs : M.heap.size = w.heap.size + 1 := by rw [hM]; simp
  have hbx : BoxT t (.slice A t.args.length c) w.heap.size M := by rw [hM]; exact boxT_new w t _ _
  have hbk : M.heap[w.heap.size]? = some (.cells #[.int .i64 t.kind, .int .i64 t.num, .string t.name, .slice A t.args.length c] 24) := by rw [hM]; exact heap_alloc_new w _
  have hoM : BRow B l v M := by rw [hM]; exact ho.alloc _
  have hrd : Rd M M.heap.size 1 kv ks.length (intsC ks) := by
    obtain ⟨h1, A', c', rfl, h2, h3⟩ := hk
    refine ⟨h1, A', c', rfl, h2, fun hp => ?_⟩
    obtain ⟨g, o, e, hg, h4⟩ := h3 hp
    have hgw : g < w.heap.size := by
      have h5 : w.cell? ⟨g, o + 0, none⟩ = some (.int .i64 (ks[0]'hp)) := (h4 0 (by omega)).trans (by unfold intsC; rw [List.getElem?_map, List.getElem?_eq_getElem hp]; rfl)
      refine Classical.byContradiction fun hge => ?_
      unfold World.cell? at h5
      rw [show (⟨g, o + 0, none⟩ : Addr).block = g from rfl, Array.getElem?_eq_none (by omega)] at h5
      cases h5
    exact ⟨g, o, e, by omega, fun j hj => (hMb.cell (p := ⟨g, o + j, none⟩) hgw).trans (h4 j hj)⟩
  have HC := Lib.hid (contains_any kv ks t.kind M _ hrd (by omega))
  have HW := Lib.hid hW
  have HA := Lib.hid (hA.bel (hMb.mono hB))
  have HO := Lib.hid hoM
  have HMW := Lib.hid hMw
  have HT := Lib.hid (hT.on (hMb.mono hB))
  have HM := Lib.hid hM
  have HBK := Lib.hid hbk
  have HOW := Lib.hid ho
  obtain ⟨b0, b1, b2, b3⟩ := hbx
  have hBM : B ≤ M.heap.size := by omega
  have hBM1 : B ≤ w.heap.size := hB
  have HMs := Lib.hid hMs
  clear hW hA ho hT hk hrd hM hbk hoM hMw hMb hB hMs
  unfold tv
  cases hb : ks.contains t.kind
  · rw [hb] at HC
    have HE := Lib.hid (show pieceB ks t = writeB t by unfold pieceB br; rw [hb]; simp)
    rw [HE.out] at hlen
    have HL := Lib.hid hlen
    clear hb hlen
    rw [HM.out] at HC b0 b1 b2 b3
    go_enter Tryz.func36, Tryz.ntmps36
    go_wp2_with fail
    refine HC.out.mono ?_
    rintro e w1 ⟨rfl, rfl⟩
    go_wp2_with fail
    rw [← HM.out]
    refine (HW.out _ v l M hBM HO.out HA.out HL.out HT.out).mono ?_
    rintro e w1 ⟨v2, rfl, hr, hw⟩
    go_wp2_with fail
    go_ret
    exact ⟨_, rfl, by rw [HE.out]; exact hr.out, HMW.out.trans hw.out⟩
  · rw [hb] at HC
    have HE := Lib.hid (show pieceB ks t = 40 :: writeB t ++ [41] by unfold pieceB br; rw [hb]; simp)
    rw [HE.out] at hlen
    have HL := Lib.hid hlen
    clear hb hlen
    rw [HM.out] at HC b0 b1 b2 b3
    go_enter Tryz.func36, Tryz.ntmps36
    go_wp2_with fail
    refine HC.out.mono ?_
    rintro e w1 ⟨rfl, rfl⟩
    go_wp2_with fail
    obtain ⟨y0, y1, y2, y3⟩ := boxT_of HBK.out
    rw [← HM.out]
    have hMsz : w.heap.size < M.heap.size := by have := HMs.out; omega
    clear b0 b1 b2 b3
    have HL2 := Lib.hid (show l.length + 1 + (writeB t).length + 1 ≤ 1099511627776 by have := HL.out; simp at this; omega)
    have hl1 : l.length + 1 ≤ 140737488355328 := by have := HL2.out; omega
    have hl2 : (l ++ [40]).length + (writeB t).length ≤ 1099511627776 := by have := HL2.out; simp; omega
    have hl3 : (l ++ [40] ++ writeB t).length + 1 ≤ 140737488355328 := by have := HL2.out; simp; omega
    have HL3 := Lib.hid hl2
    have HL4 := Lib.hid hl3
    have HE2 := Lib.hid (show l ++ [40] ++ writeB t ++ [41] = l ++ pieceB ks t by rw [HE.out]; simp)
    clear hl2 hl3
    go_region_law (first
      | (refine step_append_bs rfl (.tmp 15) (.tmp 16) rfl B _ l rfl (by first | exact HO.out.alloc _ | exact (HO.out.alloc _).alloc _) ⟨_, 0, none⟩ 1 1 [40] rfl rfl (by first | exact news1 rfl (lit_new _ _ _ _ (by simp)) | exact news1 rfl (lit_on (lit_new _ _ _ _ (by simp)) _)) hl1 (by simp; omega) ?_
         intro v1 w1 hr1 hw1
         have hWM : Wr M v w1 v1 := by first | exact (Wr.drew _ _).trans ((Wr.alloc _ _ _).trans hw1) | exact (Wr.drew _ _).trans ((Wr.alloc _ _ _).trans ((Wr.alloc _ _ _).trans hw1))
         have hs1 : M.heap.size ≤ w1.heap.size := hWM.1.size
         have hsz1 : w.heap.size < w1.heap.size := by omega
         have hbB : Below B M w1 := HO.out.below hWM hBM
         obtain ⟨z0, z1, z2, z3⟩ := boxT_of (lit_kept HBK.out hWM (HOW.out.ne (Nat.le_refl _)))
         have HR1 := Lib.hid hr1
         have HW1 := Lib.hid hw1
         have HWM := Lib.hid hWM
         have HBB := Lib.hid hbB
         clear hr1 hw1 hWM hbB)
      | (rw [if_pos (by simp [Region.wanted])]
         go_simp
         go_at_call 25
         refine (HW.out _ v1 (l ++ [40]) _ (by first | omega | (simp; omega)) (by first | exact HR1.out | exact HR1.out.alloc _) (by first | exact HA.out.bel HBB.out | exact HA.out.bel (HBB.out.alloc (by omega) _)) HL3.out (by first | exact HT.out.on HBB.out | exact HT.out.on (HBB.out.alloc (by omega) _))).mono ?_
         rintro e w2 ⟨v2, rfl, hr2, hw2⟩
         have hs2 : w1.heap.size ≤ w2.heap.size := by first | exact hw2.out.1.size | (have := hw2.out.1.size; simp at this; omega))
      | (refine step_append_bs rfl (.tmp 19) (.tmp 20) rfl B _ (l ++ [40] ++ writeB t) rfl (by first | exact hr2.out | exact hr2.out.alloc _) ⟨_, 0, none⟩ 1 1 [41] rfl rfl (by first
          | exact news1 rfl (lit_new _ _ _ _ (by simp))
          | exact news1 rfl (lit_kept (lit_new _ _ _ _ (by simp)) hw2.out (HR1.out.ne (Nat.le_refl _)))
          | exact news1 rfl (lit_kept (lit_kept (lit_new _ _ _ _ (by first | rfl | (simp; done) | omega)) HW1.out (HOW.out.ne (by first | omega | (simp; omega) | (simp; done)))) hw2.out (HW1.out.ne (HOW.out.ne (by first | omega | (simp; omega) | (simp; done))) (by first | omega | (simp; omega) | (simp; done))))
          | exact news1 rfl (lit_kept (lit_kept (lit_d (lit_new _ _ _ _ (by first | rfl | (simp; done) | omega))) HW1.out (HOW.out.ne (by first | omega | (simp; omega) | (simp; done)))) hw2.out (HW1.out.ne (HOW.out.ne (by first | omega | (simp; omega) | (simp; done))) (by first | omega | (simp; omega) | (simp; done))))
          | exact news1 rfl (lit_kept (lit_kept (lit_on (lit_new _ _ _ _ (by first | rfl | (simp; done) | omega)) _) HW1.out (HOW.out.ne (by first | omega | (simp; omega) | (simp; done)))) hw2.out (HW1.out.ne (HOW.out.ne (by first | omega | (simp; omega) | (simp; done))) (by first | omega | (simp; omega) | (simp; done))))
          | exact news1 rfl (lit_kept (lit_kept (lit_d (lit_on (lit_new _ _ _ _ (by first | rfl | (simp; done) | omega)) _)) HW1.out (HOW.out.ne (by first | omega | (simp; omega) | (simp; done)))) hw2.out (HW1.out.ne (HOW.out.ne (by first | omega | (simp; omega) | (simp; done))) (by first | omega | (simp; omega) | (simp; done))))) HL4.out (by first | omega | (simp; omega)) ?_
         intro v3 w3 hr3 hw3
         have HR3 := Lib.hid (show BRow B (l ++ pieceB ks t) v3 w3 by rw [← HE2.out]; exact hr3)
         have HW3 := Lib.hid (show Wr M v w3 v3 by first | exact HWM.out.trans (hw2.out.trans hw3) | exact HWM.out.trans ((Wr.alloc _ _ _).trans (hw2.out.trans hw3)) | exact HWM.out.trans (hw2.out.trans ((Wr.alloc _ _ _).trans hw3)))
         clear hr3 hw3))
    all_goals
      go_wp2_with fail
      go_ret
      exact ⟨v3, rfl, HR3.out, HMW.out.trans HW3.out⟩
end Go.Proofs.YtmpmibebkflaiaaGreatDoor
namespace Go.Proofs.YtmpmibebkflaiaaGreatDoor
open Go.RowKit Go.Lib Tp
set_option maxRecDepth 100000
set_option linter.unusedVariables false
set_option linter.unusedSectionVars false

/-- kinds that are handed on: none, or a row of their own. -/
def KAt (w : World) (kv : Value) (ks : List Int) : Prop := (kv = .slice none 0 0 ∧ ks = []) ∨ ∃ gk, kv = .slice (some ⟨gk, 0, none⟩) ks.length ks.length ∧ w.heap[gk]? = some (.cells (intsC ks).toArray 3)
theorem KAt.rd {w : World} {kv : Value} {ks : List Int} (h : KAt w kv ks) : Rd w w.heap.size 1 kv ks.length (intsC ks) := by
  rcases h with ⟨rfl, rfl⟩ | ⟨gk, rfl, hk⟩
  · exact Rd.nil _ _ _ _ _
  · refine ⟨by simp [intsC], some ⟨gk, 0, none⟩, ks.length, rfl, Nat.le_refl _, fun hp => ⟨gk, 0, rfl, (Array.getElem?_eq_some_iff.1 hk).1, fun j hj => ?_⟩⟩
    simp only [World.cell?, hk, Nat.zero_add]
    simp
theorem KAt.wr {B : Nat} {l : List UInt8} {w w' : World} {kv v v' : Value} {ks : List Int} (h : KAt w kv ks) (ho : BRow B l v w) (hw : Wr w v w' v') : KAt w' kv ks := by
  rcases h with h | ⟨gk, rfl, hk⟩
  · exact .inl h
  · refine .inr ⟨gk, rfl, lit_kept hk hw fun e => ?_⟩
    rcases ho.2 with ⟨rfl, _⟩ | ⟨g, cap, cur, rfl, _, hg, _⟩
    · simp [Value.ownBlock] at e
    · obtain rfl : g = gk := by simpa [Value.ownBlock] using e
      rw [hg] at hk
      simp at hk
theorem KAt.alloc {w : World} {kv : Value} {ks : List Int} (h : KAt w kv ks) (o : Obj) : KAt (w.alloc o) kv ks := by
  rcases h with h | ⟨gk, rfl, hk⟩
  · exact .inl h
  · exact .inr ⟨gk, rfl, lit_on hk o⟩
theorem joinB_take (sep : List UInt8) (ks : List Int) {ls : List Ty} {k : Nat} {x : Ty} (hx : ls[k]? = some x) : joinB sep ks (texts (ls.take (k + 1))) = joinB sep ks (texts (ls.take k)) ++ (if k = 0 then [] else sep) ++ pieceB ks x := by
  rw [List.take_add_one, hx, texts_eq, texts_eq]
  show joinB sep ks (List.map _ (ls.take k ++ [x])) = _
  rw [List.map_append]
  show joinB sep ks (List.map _ (ls.take k) ++ [(x.kind, writeB x)]) = _
  rw [joinB_snoc]
  have hk : (List.map (fun t : Ty => (t.kind, writeB t)) (ls.take k) = []) ↔ k = 0 := by
    rw [List.map_eq_nil_iff, List.take_eq_nil_iff]
    constructor
    · rintro (h | rfl)
      · exact h
      · simp at hx
    · exact .inl
  by_cases h : k = 0
  · rw [if_pos (hk.2 h), if_pos h]; rfl
  · rw [if_neg (fun h' => h (hk.1 h')), if_neg h]; rfl
theorem joinB_mono (sep : List UInt8) (ks : List Int) (ls : List Ty) : ∀ k, k ≤ ls.length → (joinB sep ks (texts (ls.take k))).length ≤ (joinB sep ks (texts ls)).length := by
  intro k hk
  have key : ∀ n, k + n ≤ ls.length → (joinB sep ks (texts (ls.take k))).length ≤ (joinB sep ks (texts (ls.take (k + n)))).length := by
    intro n
    induction n with
    | zero => intro _; exact Nat.le_refl _
    | succ n ih =>
      intro h
      refine Nat.le_trans (ih (by omega)) ?_
      rw [show k + (n + 1) = k + n + 1 by omega, joinB_take sep ks (List.getElem?_eq_getElem (show k + n < ls.length by omega)), List.length_append, List.length_append]
      omega
  have := key (ls.length - k) (by omega)
  rwa [show k + (ls.length - k) = ls.length by omega, List.take_length] at this
def ListPost (B : Nat) (L : List UInt8) (v : Value) (w : World) (e : Ending) (w' : World) : Prop := BPost B L v w e w'
set_option maxHeartbeats 4000000 in
theorem list_any (B : Nat) (ls : List Ty) (hW : ∀ x ∈ ls, WriteAt B x) (s v kv : Value) (sep : ByteArray) (l : List UInt8) (ks : List Int) (w : World) (hB : B ≤ w.heap.size) (ho : BRow B l v w) (hA : IsA w (fun g => g < B) ls s)
    (hlen : l.length + (joinB sep.data.toList ks (texts ls)).length ≤ 1099511627776) (hT : PowB B w) (hk : KAt w kv ks) (hkl : ks.length ≤ 100) (hll : ls.length ≤ 2513169434843) (hsep : sep.size ≤ 100) :
    Calls Tryz.prog 35 #[v, s, .string sep, kv] w (BPost B (l ++ joinB sep.data.toList ks (texts ls)) v w) := by
  obtain ⟨A, c, rfl, hc⟩ := hA.form
  have HW := Lib.hid hW
  have HA := Lib.hid hA
  have HO := Lib.hid ho
  have HL := Lib.hid hlen
  have HT := Lib.hid hT
  have HK := Lib.hid hk
  obtain ⟨L, hL⟩ : ∃ L, L = ls.length := ⟨_, rfl⟩
  rw [← hL] at hc HA hll ⊢
  have HLL := Lib.hid hL
  have HB := Lib.hid hB
  clear hW hA ho hlen hT hk hL
  go_enter Tryz.func35, Tryz.ntmps35
  go_wp2
  go_loopw [0, 13] (fun u i wr => ∃ k : Nat, k ≤ L ∧ i = .int .i64 k ∧ RowKit.Hid (BRow B (l ++ joinB sep.data.toList ks (texts (ls.take k))) u wr) ∧ RowKit.Hid (Wr w v wr u) ∧ RowKit.Hid (KAt wr kv ks)) (fun _ i _ => L - (RowKit.intOf i).toNat)
  case atStart => exact ⟨0, by omega, rfl, by rw [List.take_zero, texts, joinB, List.append_nil]; exact HO.out, Wr.refl _ _, HK.out⟩
  case round =>
    obtain ⟨k, hk, rfl, HR, HWR, HKA⟩ := hrel
    have hbB : Below B w wr := HO.out.below HWR.out hB
    have hBr : B ≤ wr.heap.size := by have := HWR.out.1.size; omega
    by_cases hlt : k < L
    · have hAr := HA.out.bel hbB
      obtain ⟨A', c', e, -, hr⟩ := hAr.open
      simp only [Value.slice.injEq] at e
      obtain ⟨rfl, -, rfl⟩ := e
      obtain ⟨g, o, rfl, hg, hr⟩ := hr (by have := HLL.out; omega)
      obtain ⟨x, hx⟩ : ∃ x, ls[k]? = some x := ⟨_, List.getElem?_eq_getElem (by have := HLL.out; omega)⟩
      have hxm := List.mem_of_getElem? hx
      obtain ⟨sx, c0, c1, c2, c3, hax⟩ := hr k x hx
      obtain ⟨Ax, cx, rfl, hcx⟩ := hax.form
      have hgl : g < wr.heap.size := by omega
      have HJ := Lib.hid (joinB_take sep.data.toList ks hx)
      have hjm := joinB_mono sep.data.toList ks ls (k + 1) (by have := HLL.out; omega)
      rw [HJ.out, List.length_append, List.length_append] at hjm
      have HAX := Lib.hid hax
      have HWX := Lib.hid (HW.out x hxm)
      have HBB := Lib.hid hbB
      obtain ⟨acc, hacc⟩ : ∃ acc, acc = l ++ joinB sep.data.toList ks (texts (ls.take k)) := ⟨_, rfl⟩
      have hal : acc.length + (if k = 0 then [] else sep.data.toList).length + (pieceB ks x).length ≤ 1099511627776 := by rw [hacc, List.length_append]; have := HL.out; omega
      rw [← hacc] at HR
      have HACC := Lib.hid hacc
      have HAL := Lib.hid hal
      obtain ⟨X, hX⟩ : ∃ X, X = wr.alloc (.cells #[.int .i64 x.kind, .int .i64 x.num, .string x.name, .slice Ax x.args.length cx] 24) := ⟨_, rfl⟩
      have hXw : Wr wr u0 X u0 := by rw [hX]; exact Wr.alloc _ _ _
      have hXr : BRow B acc u0 X := by rw [hX]; exact HR.out.alloc _
      have hXb : Below B w X := by rw [hX]; exact hbB.alloc hBr _
      have hXk : KAt X kv ks := by rw [hX]; exact HKA.out.alloc _
      have hXs : X.heap.size = wr.heap.size + 1 := by rw [hX]; simp
      have hbox : X.heap[wr.heap.size]? = some (.cells #[.int .i64 x.kind, .int .i64 x.num, .string x.name, .slice Ax x.args.length cx] 24) := by rw [hX]; exact heap_alloc_new _ _
      have haX : IsA X (fun g => g < B) x.args (.slice Ax x.args.length cx) := hax.bel (by rw [hX]; exact (Below.refl _ _).alloc hBr _)
      have HX := Lib.hid hX
      have HXW := Lib.hid hXw
      have HXR := Lib.hid hXr
      have HXB := Lib.hid hXb
      have HXK := Lib.hid hXk
      have HBOX := Lib.hid hbox
      have HXA := Lib.hid haX
      have HC := Lib.hid (fun (Y : World) (y : Value) (m : List UInt8) (hb : Below B X Y) (hr : BRow B m y Y) (hk : KAt Y kv ks) (hm : m.length + (pieceB ks x).length ≤ 1099511627776) =>
        show Calls Tryz.prog 36 #[y, .agg #[.int .i64 x.kind, .int .i64 x.num, .string x.name, .slice Ax x.args.length cx], kv] Y (BPost B (m ++ pieceB ks x) y Y) from
        part_any B x _ y kv m ks Y Y.heap.size HWX.out (by have := hb.size; omega) hr (haX.bel hb) hm (HT.out.on (hXb.trans hb)) hk.rd hkl)
      have hXs2 : wr.heap.size < X.heap.size := by omega
      clear hjm hax hxm hx hr hAr hbB hg hacc hal hX hXw hXr hXb hXk hbox haX
      by_cases hk0 : k = 0
      · have hk1 : ¬ (0 : Int) < k := by omega
        have HK0 := Lib.hid hk0
        have HJ2 := Lib.hid (show l ++ joinB sep.data.toList ks (texts (ls.take (k + 1))) = acc ++ pieceB ks x by rw [HJ.out, if_pos HK0.out, HACC.out]; simp)
        have HAL2 := Lib.hid (show acc.length + (pieceB ks x).length ≤ 1099511627776 by have := HAL.out; rw [if_pos HK0.out] at this; simpa using this)
        clear hk0
        go_wp2_with fail
        rw [← HX.out]
        refine (HC.out X u0 acc (Below.refl _ _) HXR.out HXK.out HAL2.out).mono ?_
        rintro e w2 ⟨v2, rfl, hr2, hw2⟩
        have HR2 := Lib.hid hr2.out
        have HW2 := Lib.hid hw2.out
        clear hr2 hw2
        go_wp2_with fail
        go_roundw
        case rel => exact ⟨k + 1, by omega, by go_num, by rw [HJ2.out]; exact HR2.out, HWR.out.trans (HXW.out.trans HW2.out), HXK.out.wr HXR.out HW2.out⟩
        case measure => simp [RowKit.intOf]; omega
      · have hk1 : (0 : Int) < k := by omega
        have HK0 := Lib.hid hk0
        have HJ2 := Lib.hid (show l ++ joinB sep.data.toList ks (texts (ls.take (k + 1))) = acc ++ sep.data.toList ++ pieceB ks x by rw [HJ.out, if_neg HK0.out, HACC.out]; simp)
        have HAL2 := Lib.hid (show (acc ++ sep.data.toList).length + (pieceB ks x).length ≤ 1099511627776 by have := HAL.out; rw [if_neg HK0.out] at this; rw [List.length_append]; exact this)
        have hap : acc.length + sep.size ≤ 140737488355328 := by
          have h1 := HAL.out
          rw [if_neg HK0.out] at h1
          have e : sep.data.toList.length = sep.size := by simp
          omega
        have hBX : B ≤ X.heap.size := by omega
        have HNE := Lib.hid (HR.out.ne (Nat.le_refl wr.heap.size))
        clear hk0
        obtain ⟨z0, z1, z2, z3⟩ := boxT_of HBOX.out
        rw [HX.out] at z0 z1 z2 z3
        go_wp2_with (first
          | (at_builtin
             rw [← HX.out]
             refine wpList_append_str rfl _ _ rfl B _ acc rfl HXR.out sep rfl hap hBX ?_
             intro v1 w1 hr1 hw1
             have hsz : wr.heap.size < w1.heap.size := by have := hw1.1.size; omega
             obtain ⟨y0, y1, y2, y3⟩ := boxT_of (lit_kept HBOX.out hw1 HNE.out)
             have HR1 := Lib.hid hr1
             have HW1 := Lib.hid hw1
             clear hr1 hw1)
          | (go_at_call 36
             refine (HC.out _ _ (acc ++ sep.data.toList) (HXR.out.below HW1.out hBX) HR1.out (HXK.out.wr HXR.out HW1.out) HAL2.out).mono ?_
             rintro e w2 ⟨v2, rfl, hr2, hw2⟩
             have HR2 := Lib.hid hr2.out
             have HW2 := Lib.hid hw2.out
             clear hr2 hw2))
        go_roundw
        case rel => exact ⟨k + 1, by omega, by go_num, by rw [HJ2.out]; exact HR2.out, HWR.out.trans (HXW.out.trans (HW1.out.trans HW2.out)), (HXK.out.wr HXR.out HW1.out).wr HR1.out HW2.out⟩
        case measure => simp [RowKit.intOf]; omega
    · have hkL : k = L := by omega
      subst hkL
      have HF := Lib.hid (show ls.take k = ls from List.take_of_length_le (by have := HLL.out; omega))
      rw [HF.out] at HR
      clear hbB hBr
      go_wp2_with fail
      go_ret
      exact ⟨_, rfl, HR.out, HWR.out⟩
end Go.Proofs.YtmpmibebkflaiaaGreatDoor
