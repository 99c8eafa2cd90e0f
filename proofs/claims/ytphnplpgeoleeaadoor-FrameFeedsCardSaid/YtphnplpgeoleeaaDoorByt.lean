/- Slices of bytes: SameBytes, CopyBytes, Spare, what came in. -/
import Derived.Test.YtphnplpgeoleeaaDoorMem
import Derived.Test.YtphnplpgeoleeaaDoorBytes
import Derived.Lib.Hide
import Derived.Maps.AppendAt
import Derived.Deep.RegionWith
import Derived.Deep.QuietTactic
import Derived.BigQuiet
import Derived.WalkSmall
import Derived.WalkLawsBesides
import Derived.Laws.MakeOwn
import Derived.ChangeSlices
import Derived.OpenShut
import Derived.WideShapes
namespace Go.Proofs.YtphnplpgeoleeaaDoor
open Go.RowKit Go.Lib Go.ChangeShapes Go.WideShapes
set_option maxRecDepth 100000
set_option linter.unusedVariables false
set_option linter.unusedSectionVars false

theorem infoByte : (Tryd.prog.info? 5).map (fun i => (i.zero, i.size, i.bytes)) = some (some (.int .u8 0), 1, 1) := by kernel_rfl
theorem ret_int {k : IntKind} {a b : Int} (h : a = b) : Ending.returned (.int k a) = .returned (.int k b) := by rw [h]
theorem ret_bool {a b : Bool} (h : a = b) : Ending.returned (.bool a) = .returned (.bool b) := by rw [h]
def TruePost (w : World) (e : Ending) (w' : World) : Prop := e = .returned (.bool true) ∧ Below w.heap.size w w'
theorem take_near {α : Type} {l m : List α} {k : Nat} {x y : α} (hx : l[k]? = some x) (hy : m[k]? = some y) (h : x = y) (he : l.take k = m.take k) : l.take (k + 1) = m.take (k + 1) := by
  rw [List.take_add_one, List.take_add_one, he, hx, hy, h]
theorem far_get {α : Type} [DecidableEq α] {l m : List α} {k : Nat} {x y : α} (hx : l[k]? = some x) (hy : m[k]? = some y) (h : x ≠ y) : false = decide (l = m) := by
  symm
  rw [decide_eq_false_iff_not]
  rintro rfl
  rw [hx] at hy
  exact h (Option.some.inj hy)
def SameP {α : Type} [DecidableEq α] (l m : List α) (w : World) (e : Ending) (w' : World) : Prop := e = .returned (.bool (decide (l = m))) ∧ ∃ q, w' = w.drewN q
theorem rd_byte {w : World} {g o n : Nat} {l : List UInt8} (hr : ∀ j, j < n * 1 → w.cell? ⟨g, o + j, none⟩ = (bytesV l)[j]?) (hn : n = l.length) {k : Nat} (h : k < n) : ∃ x, l[k]? = some x ∧ w.cell? ⟨g, o + k, none⟩ = some (.int .u8 (x.toNat : Int)) := by
  subst hn
  refine ⟨l[k], List.getElem?_eq_getElem h, ?_⟩
  rw [hr k (by omega)]
  exact bytesV_get l k h
theorem byte_ne {x y : UInt8} (h : ((x.toNat : Int) != (y.toNat : Int)) = true) : x ≠ y := by
  rintro rfl
  simp at h
theorem byte_eq {x y : UInt8} (h : ((x.toNat : Int) != (y.toNat : Int)) = false) : x = y := by
  have : (x.toNat : Int) = y.toNat := by simpa using h
  exact UInt8.toNat_inj.1 (by omega)
set_option maxHeartbeats 1000000 in
theorem sameBytes_any (v1 v2 : Value) (l m : List UInt8) (w : World) (B1 B2 : Nat) (h1 : Rd w B1 1 v1 l.length (bytesV l)) (h2 : Rd w B2 1 v2 m.length (bytesV m)) (hb : l.length ≤ 1152921504606846976) (hb2 : m.length ≤ 1152921504606846976) :
    Calls Tryd.prog 19 #[v1, v2] w (SameP l m w) := by
  obtain ⟨hl1, A1, c1, rfl, hc1, h1⟩ := h1
  obtain ⟨hl2, A2, c2, rfl, hc2, h2⟩ := h2
  by_cases hlen : l.length = m.length
  · rcases Nat.eq_zero_or_pos l.length with h0 | h0
    · have e1 : l = [] := List.eq_nil_of_length_eq_zero h0
      have e2 : m = [] := List.eq_nil_of_length_eq_zero (by omega)
      subst e1 e2
      simp only [List.length_nil] at *
      clear h1 h2 hlen
      go_enter Tryd.func19, Tryd.ntmps19
      go_wp2
      go_loop [5] (fun i => i = .int .i64 0) (fun _ => 0)
      case atStart => rfl
      case round =>
        obtain rfl := hrel
        go_wp2
        go_ret
        exact ⟨rfl, 0, rfl⟩
    · obtain ⟨g1, o1, rfl, hg1, hr1⟩ := h1 h0
      obtain ⟨g2, o2, rfl, hg2, hr2⟩ := h2 (by omega)
      obtain ⟨n, hn⟩ : ∃ n, n = l.length := ⟨_, rfl⟩
      rw [← hlen] at hr2 hc2 ⊢
      rw [← hn] at h0 hr1 hr2 hc1 hc2 hb ⊢
      have HL := Lib.hid hlen
      have HN := Lib.hid hn
      have R1 := Lib.hid hr1
      have R2 := Lib.hid hr2
      clear hlen hn hr1 hr2 hl1 hl2 h1 h2
      go_enter Tryd.func19, Tryd.ntmps19
      go_wp2
      go_loopw [5] (fun i wr => ∃ k q : Nat, k ≤ n ∧ i = .int .i64 k ∧ wr = w.drewN q ∧ l.take k = m.take k) (fun i _ => n - (RowKit.intOf i).toNat)
      case atStart => exact ⟨0, 0, by omega, rfl, rfl, by simp⟩
      case round =>
        obtain ⟨k, q, hk, rfl, rfl, heq⟩ := hrel
        have HE := Lib.hid heq
        clear heq
        by_cases hlt : k < n
        · obtain ⟨x, hx, a0⟩ := rd_byte R1.out HN.out hlt
          obtain ⟨y, hy, b0⟩ := rd_byte R2.out (HN.out.trans HL.out) hlt
          have HX := Lib.hid hx
          have HY := Lib.hid hy
          clear hx hy
          go_wp2
          go_quiet (fail)
          go_wp2
          · rename_i h
            go_ret
            exact ⟨ret_bool (far_get HX.out HY.out (byte_ne h)), q + nq, World.drewN_drewN _ _ _⟩
          · rename_i h
            go_roundw
            case rel => exact ⟨k + 1, q + nq, by omega, by go_num, rfl, take_near HX.out HY.out (byte_eq h) HE.out⟩
            case measure => simp [RowKit.intOf]; omega
        · go_wp2
          go_ret
          refine ⟨ret_bool ?_, q, rfl⟩
          have e := HE.out
          rw [List.take_of_length_le (by have := HN.out; omega), List.take_of_length_le (by have := HN.out; have := HL.out; omega)] at e
          rw [e]; simp
  · have hne : ((l.length : Int) != m.length) = true := by simp; omega
    have hd : false = decide (l = m) := by
      symm
      rw [decide_eq_false_iff_not]
      rintro rfl
      exact hlen rfl
    have HD := Lib.hid hd
    clear hd hlen h1 h2 hl1 hl2
    go_enter Tryd.func19, Tryd.ntmps19
    go_wp2
    go_ret
    exact ⟨ret_bool HD.out, 0, rfl⟩
theorem sameBytes_yes (v1 v2 : Value) (l : List UInt8) (w : World) (B1 B2 : Nat) (h1 : Rd w B1 1 v1 l.length (bytesV l)) (h2 : Rd w B2 1 v2 l.length (bytesV l)) (hb : l.length ≤ 1152921504606846976) :
    Calls Tryd.prog 19 #[v1, v2] w fun e w' => e = .returned (.bool true) ∧ ∃ q, w' = w.drewN q :=
  (sameBytes_any v1 v2 l l w B1 B2 h1 h2 hb hb).mono fun e w' h => ⟨h.1.trans (ret_bool (by simp)), h.2⟩
/-- a slice that came in and reads as these numbers. -/
def ArgB (w : World) (v : Value) (l : List UInt8) : Prop := Rd w w.heap.size 1 v l.length (bytesV l) ∧ (v = .slice none 0 0 ∨ ∃ a c, v = .slice (some a) l.length c)
theorem ArgB.at {w : World} {ad : Addr} {n c : Nat} {l : List UInt8} (h : Rd w w.heap.size 1 (.slice (some ad) n c) n (bytesV l)) (o : Obj) : ∀ (j : Nat) (u : Value), (bytesV l)[j]? = some u → (w.alloc o).cell? (ad.add j) = some u := by
  intro j u hu
  have hj : j < (bytesV l).length := (List.getElem?_eq_some_iff.1 hu).1
  obtain ⟨hln, A, c', e, _, hr⟩ := h
  obtain ⟨g, o', rfl, hg, hr⟩ := hr (by omega)
  simp only [Value.slice.injEq, Option.some.injEq] at e
  obtain ⟨rfl, _, _⟩ := e
  rw [add_off, ((Below.refl w.heap.size w).alloc (Nat.le_refl _) o).cell (p := ⟨g, o' + j, none⟩) hg, hr j (by omega)]
  exact hu
theorem copyBytes_any (v : Value) (l : List UInt8) (w : World) (h : ArgB w v l) (hl : l.length ≤ 1099511627776) :
    Calls Tryd.prog 22 #[v] w fun e w' => ∃ v', e = .returned v' ∧ RowKit.Hid (v' ≠ .slice none 0 0 ∧ w'.ownsRow w.heap.size 5 1 v' l.length (bytesV l)) ∧ Below w.heap.size w w' := by
  obtain ⟨h1, h2⟩ := h
  obtain ⟨i0, hi, hz0, hz1, hz2⟩ := info_parts infoByte
  have HO := Lib.hid (World.ownsRow_lit (e := 5) (size := 1) w #[] 0 (Nat.le_refl _) (by unfold maxLen; omega) rfl)
  obtain ⟨n, hn⟩ : ∃ n, n = l.length := ⟨_, rfl⟩
  rw [← hn] at h1 h2 hl ⊢
  have HR := Lib.hid h1
  have HN := Lib.hid hn
  clear h1 hn
  rcases h2 with rfl | ⟨ad, c, rfl⟩
  · have hn0 : n = 0 := by
      obtain ⟨_, A, c', e, _⟩ := HR.out
      simp only [Value.slice.injEq] at e
      omega
    subst hn0
    go_enter Tryd.func22, Tryd.ntmps22
    go_wp2
    go_ret
    obtain rfl : l = [] := List.eq_nil_of_length_eq_zero HN.out.symm
    exact ⟨_, rfl, ⟨by simp, HO.out⟩, (Below.refl _ _).alloc (Nat.le_refl _) _⟩
  · have HR1 := Lib.hid (ArgB.at HR.out (.cells #[] 5))
    go_enter Tryd.func22, Tryd.ntmps22
    go_wp2_with (at_builtin; refine wpList_append_own _ rfl _ _ 27 rfl w.heap.size 5 i0 _ 1 1 Tryd.underlying27 hi hz0 hz1 hz2 rfl (by decide) _ _ _ rfl HO.out ad n c (bytesV l) rfl (by rw [bytesV_len, HN.out, Nat.mul_one]) HR1.out (bytesV_plain _) (by unfold maxLen; omega) (by omega) (by simp) ?_; intro v' w1 hown hgrow hnil)
    go_ret
    refine ⟨_, rfl, ⟨fun e => by (have h : Value.slice (some ⟨w.heap.size, 0, none⟩) 0 0 = .slice none 0 0 := (hnil.1 e).1); simp at h, ?_⟩, ((Below.refl _ _).alloc (Nat.le_refl _) _).grown hgrow (by simp) (fun g e => by cases e; exact Nat.le_refl _)⟩
    rw [Nat.zero_add] at hown
    exact hown
theorem ArgB.form {w : World} {v : Value} {L : List UInt8} (h : ArgB w v L) : (v = .slice none 0 0 ∧ L = []) ∨ (∃ ad c, v = .slice (some ad) 0 c ∧ L = []) ∨ ∃ g o c, v = .slice (some ⟨g, o, none⟩) L.length c ∧ 0 < L.length ∧ L.length ≤ c ∧ g < w.heap.size ∧ ∀ j, j < L.length → w.cell? ⟨g, o + j, none⟩ = (bytesV L)[j]? := by
  obtain ⟨⟨hl, A, c, e, hc, hr⟩, h2⟩ := h
  by_cases h0 : L.length = 0
  · obtain rfl := List.eq_nil_of_length_eq_zero h0
    rcases h2 with h2 | ⟨ad, c2, h2⟩
    · exact .inl ⟨h2, rfl⟩
    · exact .inr (.inl ⟨ad, c2, h2, rfl⟩)
  · obtain ⟨g, o, rfl, hg, hr⟩ := hr (by omega)
    exact .inr (.inr ⟨g, o, c, e, by omega, hc, hg, fun j hj => hr j (by omega)⟩)
section
variable {H : Type} {enc : TypeId × Value → H} {W : World} {base : Nat} {spare : Nat → Bool} {held : Bool}
theorem open_bytesA {r : Reach} {b0 : Nat} {v : Value} {d : DataW H} {p : List MemPlace} (hv : Value.okWide Tryd.prog W r b0 27 v) (h : DataW.Trod enc Tryd.prog W base spare held 27 v d p) : ∃ L, ArgB W v L := by
  obtain ⟨a, len, cap, rfl⟩ := okWide_slice Tryd.underlying27 hv
  obtain ⟨fuel, hf⟩ := h
  rcases open_ints Tryd.underlying27 Tryd.underlying5 (by kernel_rfl) hf with ⟨hcs, _⟩ | ⟨x, l, c, zs, hcs, _, hl, hm, hz, hx, hcell, hwz⟩
  · simp [Value.cells] at hcs
    obtain ⟨rfl, rfl, rfl⟩ := hcs
    exact ⟨[], Rd.nil _ _ _ _ _, .inl rfl⟩
  · simp [Value.cells] at hcs
    obtain ⟨rfl, rfl, rfl⟩ := hcs
    have hzl : len ≤ zs.length := by rw [hz]; split <;> omega
    have hwf : ∀ n ∈ zs, 0 ≤ n ∧ n < 256 := fun n hn => by
      have := hwz n hn
      simp [Lit.wf] at this
      have h0 : IntKind.u8.min = 0 := rfl
      have h1 : IntKind.u8.max = 255 := rfl
      omega
    refine ⟨(zs.take len).map fun z => z.toNat.toUInt8, ⟨by rw [bytesV_len, Nat.mul_one], some x, cap, by rw [List.length_map, List.length_take, Nat.min_eq_left hzl], by rw [List.length_map, List.length_take]; omega, fun hpos => ?_⟩, .inr ⟨x, cap, by rw [List.length_map, List.length_take, Nat.min_eq_left hzl]⟩⟩
    rw [List.length_map, List.length_take] at hpos
    obtain ⟨b, o, rfl, hc⟩ := ints_at hcell (by omega)
    have hblt : b < W.heap.size := Classical.byContradiction fun h => by
      have h0 := hc 0 (by omega)
      unfold World.cell? at h0
      rw [show (⟨b, o + 0, none⟩ : Addr).block = b from rfl, Array.getElem?_eq_none (by omega)] at h0
      cases h0
    refine ⟨b, o, rfl, hblt, fun j hj => ?_⟩
    rw [List.length_map, List.length_take] at hj
    have hj2 : j < zs.length := by omega
    rw [hc j (by omega)]
    unfold bytesV
    rw [List.getElem?_map, List.getElem?_map, List.getElem?_take, if_pos (by omega), List.getElem?_eq_getElem hj2]
    have h := hwf zs[j] (List.getElem_mem hj2)
    simp [List.getD, List.getElem?_eq_getElem hj2, byteV]
    omega
end
theorem own_below {w w' : World} {B e size n : Nat} {v : Value} {xs : List Value} (h : w.ownsRow B e size v n xs) (hb : Below w.heap.size w w') : w'.ownsRow B e size v n xs := by
  refine ⟨h.1, ?_⟩
  rcases h.2 with hn | ⟨g, cap, cur, rfl, hg, hgg, rest⟩
  · exact .inl hn
  · exact .inr ⟨g, cap, cur, rfl, hg, by rw [hb.block g (Array.getElem?_eq_some_iff.1 hgg).1]; exact hgg, rest⟩

section
variable {P : Program} {w : World}
/-- an append whose guard says yes. -/
theorem append_own_g {ops : Array Oper} {rest : List Oper} {o : Oper} {a : Act} {Q : Exit → Act → World → Prop} (hw : Region.wanted o (yielded ops a.tmps) = true) (s x : Operand) (t : TypeId)
    (ho : o.op = .call { callee := .builtin .append, args := #[s, x], argTypes := #[t, t] })
    (base : Nat) (e : TypeId) (i : TypeInfo) (z : Value) (size bytes : Nat) (ht : P.underlying t = some (.slice e)) (hi : P.info? e = some i) (hz : i.zero = some z)
    (hsize : i.size = size) (hby : i.bytes = bytes) (hzs : z.cells.size = size) (hsz : 0 < size)
    (v : Value) (n : Nat) (xs : List Value) (hs : a.eval s = v) (hown : w.ownsRow base e size v n xs)
    (ad : Addr) (m c : Nat) (news : List Value) (hx : a.eval x = .slice (some ad) m c) (hl : news.length = m * size) (hnews : ∀ j u, news[j]? = some u → w.cell? (ad.add j) = some u) (h1 : ∀ u ∈ news, u.oneCell' = true)
    (h63 : n + m ≤ maxLen) (hbytes : (n + m) * bytes ≤ 140737488355328) (hbase : base ≤ w.heap.size)
    (h : ∀ v' w', w'.ownsRow base e size v' (n + m) (xs ++ news) → w.grownBy w' v.ownBlock → (v' = .slice none 0 0 ↔ v = .slice none 0 0 ∧ m = 0) → wpList P ops Q rest (a.put o.dst v') w') : wpList P ops Q (o :: rest) a w :=
  wpList_step fun _ hK => by
    rw [if_pos hw]
    exact wp_append_own w s x t ho base e i z size bytes ht hi hz hsize hby hzs hsz v n xs hs hown ad m c news hx hl hnews h1 h63 hbytes hbase fun v' w' h2 h3 h4 => hK _ _ (h v' w' h2 h3 h4)
end
def marks : List UInt8 := [201, 202, 203, 204, 205, 206, 207, 208]
theorem marks_next (k : Nat) (h : k < 8) : ∃ x : UInt8, marks.take (k + 1) = marks.take k ++ [x] ∧ bytesV [x] = [.int .u8 (201 + (k : Int))] := by
  rcases (by omega : k = 0 ∨ k = 1 ∨ k = 2 ∨ k = 3 ∨ k = 4 ∨ k = 5 ∨ k = 6 ∨ k = 7) with rfl | rfl | rfl | rfl | rfl | rfl | rfl | rfl
  · exact ⟨201, rfl, rfl⟩
  · exact ⟨202, rfl, rfl⟩
  · exact ⟨203, rfl, rfl⟩
  · exact ⟨204, rfl, rfl⟩
  · exact ⟨205, rfl, rfl⟩
  · exact ⟨206, rfl, rfl⟩
  · exact ⟨207, rfl, rfl⟩
  · exact ⟨208, rfl, rfl⟩
def OwnB (b : Nat) (l : List UInt8) (v : Value) (w : World) : Prop := v ≠ .slice none 0 0 ∧ w.ownsRow b 5 1 v l.length (bytesV l)
theorem ownB_next {w W1 w3 : World} {l : List UInt8} {x : UInt8} {v v' : Value} {o : Obj} (hb : Below w.heap.size w W1) (ho : W1.ownsRow w.heap.size 5 1 v l.length (bytesV l))
    (hown : w3.ownsRow w.heap.size 5 1 v' (l.length + 1) (bytesV l ++ bytesV [x])) (hg : (W1.alloc o).grownBy w3 v.ownBlock) (hnil : v' = .slice none 0 0 ↔ v = .slice none 0 0 ∧ 1 = 0) :
    OwnB w.heap.size (l ++ [x]) v' w3 ∧ Below w.heap.size w w3 := by
  refine ⟨⟨fun e => absurd (hnil.1 e).2 (by decide), ?_⟩, (hb.alloc hb.size o).grown hg (by have := hb.size; simp; omega) (fun j e => (ho.lt j e).1)⟩
  rw [← bytesV_app, List.length_append]
  exact hown
set_option maxHeartbeats 2000000 in
theorem spare_any (v : Value) (L : List UInt8) (w : World) (h : ArgB w v L) (hl : L.length ≤ 1099511627) :
    Calls Tryd.prog 13 #[v] w fun e w' => ∃ v', e = .returned v' ∧ RowKit.Hid (OwnB w.heap.size (L ++ marks) v' w') ∧ Below w.heap.size w w' := by
  obtain ⟨i0, hi, hz0, hz1, hz2⟩ := info_parts infoByte
  have HC := Lib.hid (copyBytes_any v L w h (by omega))
  clear h
  go_enter Tryd.func13, Tryd.ntmps13
  go_wp2_with fail
  refine HC.out.mono ?_
  rintro e w1 ⟨v1, rfl, ho1, hb1⟩
  have HB1 := Lib.hid hb1
  clear hb1
  go_wp2
  go_loopw [3, 4] (fun u i wr => ∃ k : Nat, k ≤ 8 ∧ i = .int .i64 k ∧ RowKit.Hid (OwnB w.heap.size (L ++ marks.take k) u wr) ∧ RowKit.Hid (Below w.heap.size w wr)) (fun _ i _ => 8 - (RowKit.intOf i).toNat)
  case atStart => exact ⟨0, by omega, rfl, by rw [List.take_zero, List.append_nil]; exact ho1.out, HB1.out⟩
  case round =>
    obtain ⟨k, hk, rfl, HO, HB⟩ := hrel
    have hsz : w.heap.size ≤ wr.heap.size := HB.out.size
    by_cases hlt : k < 8
    · have hki : (k : Int) < 8 := by omega
      obtain ⟨x, hx, hxv⟩ := marks_next k hlt
      have HX := Lib.hid hx
      have HXV := Lib.hid hxv
      have HOW := Lib.hid HO.out.2
      have hln : (L ++ marks.take k).length ≤ 1099511627 + 8 := by rw [List.length_append, List.length_take]; have : marks.length = 8 := rfl; omega
      clear hx hxv
      go_wp2_with (at_builtin; refine wpList_append_own _ rfl _ _ 27 rfl w.heap.size 5 i0 _ 1 1 Tryd.underlying27 hi hz0 hz1 hz2 rfl (by decide) _ _ _ rfl (HOW.out.alloc _) ⟨wr.heap.size, 0, none⟩ 1 1 (bytesV [x]) rfl rfl (by rw [HXV.out]; exact cell_one_new _ _ _) (bytesV_plain _) (by unfold maxLen; omega) (by omega) (by simp; omega) ?_; intro v3 w3 hown' hgrow hnil; have HST := Lib.hid (ownB_next HB.out HOW.out hown' hgrow hnil); clear hown' hgrow hnil)
      go_roundw
      case rel => exact ⟨k + 1, by omega, by go_num, by rw [HX.out, ← List.append_assoc]; exact HST.out.1, HST.out.2⟩
      case measure => simp [RowKit.intOf]; omega
    · have hki : ¬ (k : Int) < 8 := by omega
      have e : k = 8 := by omega
      subst e
      go_wp2
      go_ret
      exact ⟨_, rfl, HO.out, HB.out⟩
end Go.Proofs.YtphnplpgeoleeaaDoor
