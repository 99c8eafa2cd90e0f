/- The reference's Feed. -/
import Derived.Test.YtphnplpgeoleeaaDoorFraRe
import Derived.Laws.Rows
namespace Go.Proofs.YtphnplpgeoleeaaDoor
open Go.RowKit Go.Lib Go.Shelf
set_option maxRecDepth 100000
set_option linter.unusedVariables false
set_option linter.unusedSectionVars false

theorem results_cell_two {P : Program} {fn : Func} {p t u : Tmp} {ty : TypeId} (h : fn.results = #[.cell p ty, .tmp t, .tmp u]) (tmps : Array Value) (w : World) (g : Nat) (ct : TypeId) (cs : Array Value) (fr : Nat × Nat) (d : TypeDesc)
    (hp : tmps.getD p undef = .pointer (some ⟨g, 0, none⟩)) (hg : w.heap[g]? = some (.cells cs ct fr))
    (hu : P.underlying ty = some d) (hd : (match d with | .struct _ | .array _ _ => true | _ => false) = true) (hi : (P.info? ty).map (·.size) = some cs.size) (v v2 : Value) (hv : tmps.getD t undef = v) (hv2 : tmps.getD u undef = v2) :
    (results fn tmps).run P w = .ok (.tuple #[.agg cs, v, v2]) w := by
  subst hv
  subst hv2
  have hp' : tmps[p]?.getD undef = .pointer (some ⟨g, 0, none⟩) := by simpa using hp
  simp [results, h, hp', asAddr, run_loadVar_row w g ct ty cs fr d hg hu hd hi]
theorem infoDec2 : (Tryd.prog.info? 30).map (·.size) = some 2 := by kernel_rfl
/-- the reference's decoder in block g. -/
def RefAt (w : World) (g : Nat) (rv : Value) (e : Int) : Prop := w.heap[g]? = some (.cells #[rv, .int .i64 e] 30 (0, 0))
theorem refAt_cells {w : World} {g : Nat} {rv : Value} {e : Int} (h : RefAt w g rv e) : w.cell? ⟨g, 0, none⟩ = some rv ∧ w.cell? ⟨g, 1, none⟩ = some (.int .i64 e) ∧ w.frozen? ⟨g, 0, none⟩ = false ∧ w.frozen? ⟨g, 1, none⟩ = false := by
  unfold RefAt at h
  refine ⟨?_, ?_, ?_, ?_⟩ <;> simp [World.cell?, World.frozen?, h]
set_option maxHeartbeats 2000000 in
theorem refFeed_dead (A : Option Addr) (rn rc : Nat) (u : Value) (e : Nat) (w : World) (he : e ≠ 0) : Calls Tryd.prog 15 #[.agg #[.slice A rn rc, .int .i64 (e : Nat)], u] w fun x w' => x = .returned (.tuple #[.agg #[.slice A rn rc, .int .i64 (e : Nat)], .slice none 0 0, .int .i64 (e : Nat)]) ∧ Below w.heap.size w w' := by
  have hne : ((e : Int) != 0) = true := by rw [bne_iff_ne]; omega
  clear he
  go_enter Tryd.func15, Tryd.ntmps15
  go_wp2
  go_region
  all_goals
    go_wp2
    (try simp only [Exit.inBlock, Exit.then])
    refine bodyPost_ret (results_cell_two rfl _ _ (w.heap.size + 1) 30 #[.slice A rn rc, .int .i64 (e : Nat)] (0, 0) _ ?_ ?_ Tryd.underlying30 (by rfl) infoDec2 _ _ (by rfl) (by rfl)) (by rfl) ?_
    · rfl
    · have h := heap_alloc_new (w.alloc (.cells #[.slice A rn rc, .int .i64 (e : Nat)] 30)) (.cells #[.slice A rn rc, .int .i64 (e : Nat)] 30)
      rw [World.size_alloc] at h
      exact h
    · exact ⟨rfl, (((Below.refl w.heap.size w).alloc (Nat.le_refl _) _).alloc (by simp) _).drew⟩
theorem RefAt.keep {w w' : World} {g : Nat} {rv : Value} {e : Int} (h : RefAt w g rv e) (hb : Below w.heap.size w w') : RefAt w' g rv e := (hb.block g (Array.getElem?_eq_some_iff.1 h).1).trans h
theorem RefAt.setR {w : World} {g : Nat} {rv : Value} {e : Int} (h : RefAt w g rv e) (u : Value) : RefAt (w.setCell ⟨g, 0, none⟩ u) g u e := by
  obtain ⟨hlt, hk⟩ := Array.getElem?_eq_some_iff.1 h
  show (w.heap.modify g _)[g]? = _
  rw [Array.getElem?_eq_getElem (by rw [Array.size_modify]; exact hlt), Array.getElem_modify_self, hk]
  rfl
theorem RefAt.setE {w : World} {g : Nat} {rv : Value} {e : Int} (h : RefAt w g rv e) (e' : Int) : RefAt (w.setCell ⟨g, 1, none⟩ (.int .i64 e')) g rv e' := by
  obtain ⟨hlt, hk⟩ := Array.getElem?_eq_some_iff.1 h
  show (w.heap.modify g _)[g]? = _
  rw [Array.getElem?_eq_getElem (by rw [Array.size_modify]; exact hlt), Array.getElem_modify_self, hk]
  rfl
theorem RefAt.other {w : World} {g : Nat} {rv : Value} {e : Int} (h : RefAt w g rv e) (a : Addr) (ha : g ≠ a.block) (u : Value) : RefAt (w.setCell a u) g rv e := (Below.heap_setCell w a u g ha).trans h
/-- what the reference's Feed answers. -/
def RefP (L : List UInt8) (w : World) (x : Ending) (w' : World) : Prop :=
  ∃ A n c v, x = .returned (.tuple #[.agg #[.slice A n c, .int .i64 ((feedL L).2.2 : Nat)], v, .int .i64 ((feedL L).2.2 : Nat)]) ∧ ArgB w' (.slice A n c) (feedL L).2.1 ∧ Rows w.heap.size noX (feedL L).1 v w' ∧ Below w.heap.size w w' ∧ (∀ a m' c', (Value.slice A n c) = .slice (some a) m' c' → 0 < m' → w.heap.size ≤ a.block)
/-- bytes in blocks from k on. -/
def PB (k : Nat) (w : World) (v : Value) (l : List UInt8) : Prop := ArgB w v l ∧ ∀ a m c, v = .slice (some a) m c → 0 < m → k ≤ a.block
theorem PB.rest {k n c m : Nat} {w : World} {ad : Addr} {l : List UInt8} (h : PB k w (.slice (some ad) n c) l) (hm : m ≤ n) (hn : n ≤ c) : PB k w (.slice (if c = m then some ad else some (ad.add m)) (n - m) (c - m)) (l.drop m) := by
  refine ⟨argB_rest h.1 hm hn, fun a m2 c2 e hp => ?_⟩
  simp only [Value.slice.injEq] at e
  obtain ⟨e1, e2, e3⟩ := e
  have hcm : ¬ c = m := by omega
  rw [if_neg hcm, Option.some.injEq] at e1
  have hk := h.2 ad n c rfl (by omega)
  obtain ⟨⟨_, A, c', e', _, hr⟩, _⟩ := h.1
  simp only [Value.slice.injEq] at e'
  obtain ⟨e4, e5, _⟩ := e'
  obtain ⟨g', o, e6, _, _⟩ := hr (by omega)
  rw [e6, Option.some.injEq] at e4
  rw [← e1, e4, add_off]
  rw [e4] at hk
  exact hk
theorem PB.keep {k b : Nat} {w w' : World} {v : Value} {l : List UInt8} (h : PB k w v l) (hk : Kx (· = b) w w') (hb : b < k) : ArgB w' v l := argB_kx hk h.1 (fun a m c e hp h2 => by
  have h3 := h.2 a m c e hp
  have h4 : a.block = b := h2
  omega)
theorem ref_end {L rest : List UInt8} {acc : List (List UInt8)} {e : Nat} {w w' : World} {A : Option Addr} {n c : Nat} {v : Value} (hf : feedL L = (acc, rest, e)) (h1 : ArgB w' (.slice A n c) rest) (h2 : Rows w.heap.size noX acc v w') (h3 : Below w.heap.size w w') (h4 : (∀ a m' c', (Value.slice A n c) = .slice (some a) m' c' → 0 < m' → w.heap.size ≤ a.block)) : RefP L w (.returned (.tuple #[.agg #[.slice A n c, .int .i64 (e : Nat)], v, .int .i64 (e : Nat)])) w' :=
  ⟨A, n, c, v, by rw [hf], by rw [hf]; exact h1, by rw [hf]; exact h2, h3, h4⟩
def Two (b g : Nat) : Prop := g = b ∨ g = b + 1
theorem rows_kxY {b : Nat} {X Y : Nat → Prop} {acc : List (List UInt8)} {v : Value} {ws wr : World} (h : Rows b X acc v ws) (hk : Kx Y ws wr) (hg : ∀ g, Y g → g < b) : Rows b X acc v wr := by
  obtain ⟨vs, h1, hx, h3⟩ := h
  refine ⟨vs, own_same h1 (fun g' hg' => hk.2.2.2.2 g' (h1.lt g' hg').2 (fun e => by have h4 := (h1.lt g' hg').1; have h5 := hg g' e; omega)), hx, fun i x hi => ?_⟩
  obtain ⟨u, hu, h1c, ho, hxu⟩ := h3 i x hi
  exact ⟨u, hu, h1c, own_same ho (fun g' hg' => hk.2.2.2.2 g' (ho.lt g' hg').2 (fun e => by have h4 := (ho.lt g' hg').1; have h5 := hg g' e; omega)), hxu⟩
theorem ref_done {L rest : List UInt8} {acc : List (List UInt8)} {e k b : Nat} {w wr wf : World} {A : Option Addr} {n c : Nat} {u : Value} (hf : feedL L = (acc, rest, e)) (hR : Rows k noX acc u wr) (hk : Kx (Two b) wr wf) (hb : b + 1 < k) (hA : ArgB wf (.slice A n c) rest) (hB : Below w.heap.size w wr) (hw : w.heap.size ≤ b) (h4 : (∀ a m' c', (Value.slice A n c) = .slice (some a) m' c' → 0 < m' → w.heap.size ≤ a.block)) : RefP L w (.returned (.tuple #[.agg #[.slice A n c, .int .i64 (e : Nat)], u, .int .i64 (e : Nat)])) wf :=
  ref_end hf hA ((rows_kxY hR hk (fun g h => by rcases h with h | h <;> omega)).base (by omega)) (hB.trans (hk.below hB.size (fun g h => by rcases h with h | h <;> omega))) h4
theorem Kx.weak {X Y : Nat → Prop} {w w' : World} (h : Kx X w w') (hx : ∀ g, X g → Y g) : Kx Y w w' := ⟨h.1, h.2.1, h.2.2.1, h.2.2.2.1, fun g hg hy => h.2.2.2.2 g hg (fun h2 => hy (hx g h2))⟩
theorem PB.keep2 {k b : Nat} {w wr w' : World} {v : Value} {l : List UInt8} (h : PB k w v l) (hk : Kx (· = b) w wr) (hk2 : Kx (Two b) wr w') (hb : b + 1 < k) : ArgB w' v l := argB_kx ((hk.weak (Y := Two b) (fun g h => .inl h)).trans hk2 (fun _ _ h => h)) h.1 (fun a m c e hp h2 => by
  have h3 := h.2 a m c e hp
  rcases h2 with h2 | h2 <;> omega)
theorem two_set {b : Nat} {w : World} (u v : Value) : Kx (Two b) w ((w.setCell ⟨b + 1, 0, none⟩ u).setCell ⟨b + 1, 1, none⟩ v) := ((kx_refl (Two b) w).set (X := Two b) ⟨b + 1, 0, none⟩ (.inr rfl) u).set (X := Two b) ⟨b + 1, 1, none⟩ (.inr rfl) v
theorem kx_below {X : Nat → Prop} {a b c : World} (h : Kx X a b) (k : Below a.heap.size b c) : Kx X a c := ⟨k.os.trans h.1, k.tape.trans h.2.1, k.output.trans h.2.2.1, Nat.le_trans h.2.2.2.1 k.size, fun g hg hx => (k.block g hg).trans (h.2.2.2.2 g hg hx)⟩
theorem two_drew {b : Nat} {w w' : World} (h : Kx (Two b) w w') : Kx (Two b) w w'.drew := h
set_option maxHeartbeats 4000000 in
theorem refFeed_live (A : Option Addr) (rn rc : Nat) (u : Value) (r b L : List UInt8) (w : World) (hr : ArgB w (.slice A rn rc) r) (hu : ArgB w u b) (hL : L = r ++ b) (hl : r.length + b.length ≤ 900000) : Calls Tryd.prog 15 #[.agg #[.slice A rn rc, .int .i64 0], u] w (RefP L w) := by
  obtain ⟨i0, hi, hz0, hz1, hz2⟩ := info_parts infoByte
  obtain ⟨i2, hi2, hy0, hy1, hy2⟩ := info_parts infoRow
  have HLL := Lib.hid hL
  have HR := Lib.hid hr
  have HU := Lib.hid hu
  obtain ⟨W1, hW1⟩ : ∃ W1, W1 = (w.alloc (.cells #[.slice A rn rc, .int .i64 0] 30)).alloc (.cells #[.slice none 0 0, .int .i64 0] 30) := ⟨_, rfl⟩
  have hB1 := ((Below.refl w.heap.size w).alloc (Nat.le_refl _) (.cells #[.slice A rn rc, .int .i64 0] 30)).alloc (by simp) (.cells #[.slice none 0 0, .int .i64 0] 30)
  rw [← hW1] at hB1
  have HB1 := Lib.hid hB1
  have HD1 := Lib.hid (show RefAt W1 w.heap.size (.slice A rn rc) 0 by
    have h := heap_alloc_new w (.cells #[.slice A rn rc, .int .i64 0] 30)
    rw [hW1]
    exact (((Below.refl (w.heap.size + 1) _).alloc (by simp) (.cells #[.slice none 0 0, .int .i64 0] 30)).block w.heap.size (by omega)).trans h)
  have HE1 := Lib.hid (show RefAt W1 (w.heap.size + 1) (.slice none 0 0) 0 by
    have h := heap_alloc_new (w.alloc (.cells #[.slice A rn rc, .int .i64 0] 30)) (.cells #[.slice none 0 0, .int .i64 0] 30)
    rw [World.size_alloc] at h
    rw [hW1]
    exact h)
  have hs1 : W1.heap.size = w.heap.size + 1 + 1 := by rw [hW1, World.size_alloc, World.size_alloc]
  have HW1 := Lib.hid hW1
  clear hr hu hL hB1
  go_enter Tryd.func15, Tryd.ntmps15
  go_wp2_with fail
  rw [← HW1.out]
  refine (copyBytes_any _ r W1 (argB_below HR.out HB1.out) (by omega)).mono ?_
  rintro e w2 ⟨v2, rfl, ho2, hb2⟩
  have HD2 := Lib.hid (HD1.out.keep hb2)
  have HE2 := Lib.hid (HE1.out.keep hb2)
  have hb1l : w.heap.size + 1 < W1.heap.size := by omega
  have HO2 := Lib.hid ho2.out.2
  have HB2 := Lib.hid (HB1.out.trans (hb2.mono HB1.out.size))
  have HU2 := Lib.hid (argB_below HU.out HB2.out)
  have hB2s : W1.heap.size ≤ w2.heap.size := hb2.size
  clear ho2 hb2
  go_wp2_with (at_builtin; refine wpList_append_argB rfl _ _ 27 rfl W1.heap.size 5 i0 _ Tryd.underlying27 hi hz0 hz1 hz2 rfl v2 r rfl HO2.out u b rfl HU2.out (by omega) hB2s ?_; intro v3 w3 hown3 hgrow3 _; obtain ⟨A3, c3, rfl, hc3⟩ := (own_argB hown3).shape; have HO3 := Lib.hid hown3; have HK3 := Lib.hid (show Below W1.heap.size w2 w3 from (Below.refl _ _).grown hgrow3 hB2s (fun j e => (HO2.out.lt j e).1)); have HD3 := Lib.hid (show RefAt w3 w.heap.size (.slice A rn rc) 0 from (HK3.out.block w.heap.size (by omega)).trans HD2.out); obtain ⟨d0, d1, dz0, dz1⟩ := refAt_cells HD3.out; clear hown3 hgrow3)
  have hN : r.length + b.length = L.length := by rw [HLL.out, List.length_append]
  rw [hN]
  obtain ⟨W4, hW4⟩ : ∃ W4, W4 = w3.setCell ⟨w.heap.size, 0, none⟩ (.slice A3 L.length c3) := ⟨_, rfl⟩
  rw [← hW4]
  have hs34 : w3.heap.size = W4.heap.size := by rw [hW4]; simp
  rw [hs34]
  rw [← HLL.out] at HO3 hc3
  have hk34 := grownBy_set w3 ⟨w.heap.size, 0, none⟩ (.slice A3 L.length c3)
  rw [← hW4] at hk34
  have HD4 := Lib.hid (show RefAt W4 w.heap.size (.slice A3 L.length c3) 0 by rw [hW4]; exact HD3.out.setR _)
  have HE4 := Lib.hid (show RefAt W4 (w.heap.size + 1) (.slice none 0 0) 0 by
    rw [hW4]
    exact RefAt.other ((HK3.out.block (w.heap.size + 1) hb1l).trans HE2.out) _ (by show w.heap.size + 1 ≠ w.heap.size; omega) _)
  have HP4 := Lib.hid (show PB W1.heap.size W4 (.slice A3 L.length c3) L from ⟨own_argB (own_same HO3.out (fun g hg => hk34.block g (HO3.out.lt g hg).2 (fun e => by have h1 := (HO3.out.lt g hg).1; have h2 : g = w.heap.size := Option.some.inj e; omega))), fun a m c e hp => (HO3.out.lt a.block (by rw [e]; rfl)).1⟩)
  have HB4 := Lib.hid (show Below w.heap.size w W4 from ((HB2.out.trans (HK3.out.mono HB1.out.size)).grown hk34 (by have := HK3.out.size; omega) (fun j e => by have h2 : w.heap.size = j := Option.some.inj e; omega)))
  have hW4s : W1.heap.size ≤ W4.heap.size := by have h1 := HK3.out.size; have h2 := hk34.size; omega
  have hLl : L.length ≤ 900000 := by rw [← hN]; exact hl
  have hc4 : L.length ≤ c3 := hc3
  obtain ⟨n3, hn3⟩ : ∃ n3, n3 = L.length := ⟨_, rfl⟩
  rw [← hn3] at HD4 HP4 hLl hc4 ⊢
  have hb6 := (Below.refl W4.heap.size W4).alloc (Nat.le_refl _) (.cells #[] 27)
  have HR0 := Lib.hid (show Rows W4.heap.size noX [] (.slice (some ⟨W4.heap.size, 0, none⟩) 0 0) (W4.alloc (.cells #[] 27)) from ⟨[], World.ownsRow_lit (e := 27) (size := 1) W4 #[] 0 (Nat.le_refl _) (by unfold maxLen; omega) rfl, fun _ _ => id, fun i x h => by simp at h⟩)
  have HD5 := Lib.hid (HD4.out.keep hb6)
  have HE5 := Lib.hid (HE4.out.keep hb6)
  have HK5 := Lib.hid (Kx.of_below (X := (· = w.heap.size)) hb6)
  clear hW4 hs34 hk34 hb6 hn3 hN d0 d1 dz0 dz1 hc3 hl
  go_wp2
  go_loopw [8] (fun u wr => ∃ (acc : List (List UInt8)) (L' : List UInt8) (A : Option Addr) (m c : Nat), RowKit.Hid (Rows W4.heap.size noX acc u wr) ∧ RowKit.Hid (RefAt wr w.heap.size (.slice A m c) 0) ∧ RowKit.Hid (RefAt wr (w.heap.size + 1) (.slice none 0 0) 0) ∧ RowKit.Hid (PB W1.heap.size W4 (.slice A m c) L') ∧ m ≤ c ∧ m ≤ 900000 ∧ acc.length + m ≤ 900000 ∧ RowKit.Hid (feedL L = (acc ++ (feedL L').1, (feedL L').2)) ∧ RowKit.Hid (Kx (· = w.heap.size) W4 wr)) (fun _ wr => match wr.cell? ⟨w.heap.size, 0, none⟩ with | some (.slice _ n _) => n | _ => 0)
  case atStart => exact ⟨[], L, _, _, _, HR0.out, HD5.out, HE5.out, HP4.out, hc4, hLl, by simpa using hLl, rfl, HK5.out⟩
  case round =>
  obtain ⟨acc, L', A4, m, c4, HRW, HD, HE, HP, hmc, hm, ham, HF, HK⟩ := hrel
  obtain ⟨d0, d1, dz0, dz1⟩ := refAt_cells HD.out
  obtain ⟨x0, x1, xz0, xz1⟩ := refAt_cells HE.out
  have HA := Lib.hid (HP.out.keep HK.out (by omega))
  have HHD := Lib.hid (head_any _ L' wr HA.out (by rw [argB_len HP.out.1]; omega))
  have HBr := Lib.hid (HB4.out.trans (HK.out.below (by omega) (fun g h => by have h2 : g = w.heap.size := h; omega)))
  go_wp2_with fail
  refine HHD.out.mono ?_
  rintro e w5 ⟨rfl, rfl⟩
  rcases headR_meas L' with ⟨hz, hmf⟩ | ⟨hz, hmf⟩ | ⟨n, hz, hn0, hn1, hn2, hn3, hmf⟩
  · have HFL := Lib.hid (show feedL L = (acc, [], 30) by rw [HF.out, feedL_bad hmf (by decide), List.append_nil])
    rw [hz]
    clear hz hmf
    go_upto_region 21 with fail
    obtain ⟨W6, hW6⟩ : ∃ W6, W6 = (wr.setCell ⟨w.heap.size, 1, none⟩ (.int .i64 30)).setCell ⟨w.heap.size, 0, none⟩ (.slice none 0 0) := ⟨_, rfl⟩
    have HD6 := Lib.hid (show RefAt W6 w.heap.size (.slice none 0 0) 30 by rw [hW6]; exact (HD.out.setE 30).setR _)
    have HE6 := Lib.hid (show RefAt W6 (w.heap.size + 1) (.slice none 0 0) 0 by rw [hW6]; exact (HE.out.other _ (by show w.heap.size + 1 ≠ w.heap.size; omega) _).other _ (by show w.heap.size + 1 ≠ w.heap.size; omega) _)
    have HK6 := Lib.hid (show Kx (Two w.heap.size) wr W6 by rw [hW6]; exact ((kx_refl (Two w.heap.size) wr).set (X := Two w.heap.size) ⟨w.heap.size, 1, none⟩ (.inl rfl) _).set (X := Two w.heap.size) ⟨w.heap.size, 0, none⟩ (.inl rfl) _)
    rw [← hW6]
    clear hW6 d0 d1 dz0 dz1 x0 x1 xz0 xz1
    obtain ⟨d0, d1, dz0, dz1⟩ := refAt_cells HD6.out
    obtain ⟨x0, x1, xz0, xz1⟩ := refAt_cells HE6.out
    obtain ⟨y0, y1, yz0, yz1⟩ := refAt_cells (HE6.out.setR (.slice none 0 0))
    go_region
    go_wp2
    refine bodyPost_ret (v := .tuple #[.agg #[.slice none 0 0, .int .i64 ((30 : Nat) : Int)], u8, .int .i64 ((30 : Nat) : Int)]) ?_ rfl ?_
    · refine results_cell_two rfl _ _ (w.heap.size + 1) 30 #[.slice none 0 0, .int .i64 30] (0, 0) _ ?_ ?_ Tryd.underlying30 rfl infoDec2 _ _ ?_ ?_
      · rfl
      · exact (HE6.out.setR _).setE _
      · rfl
      · rfl
    · exact ref_done HFL.out HRW.out (two_drew (HK6.out.trans (two_set _ _) (fun _ _ h => h))) (by omega) ⟨Rd.nil _ _ _ _ _, .inl rfl⟩ HBr.out (Nat.le_refl _) (fun a m' c' e _ => by simp at e)
  · have HFL := Lib.hid (show feedL L = (acc, L', 0) by rw [HF.out, feedL_stop hmf (.inl rfl), List.append_nil])
    rw [hz]
    clear hz hmf
    go_wp2
    refine bodyPost_ret (v := .tuple #[.agg #[.slice A4 m c4, .int .i64 ((0 : Nat) : Int)], u8, .int .i64 ((0 : Nat) : Int)]) ?_ rfl ?_
    · refine results_cell_two rfl _ _ (w.heap.size + 1) 30 #[.slice A4 m c4, .int .i64 0] (0, 0) _ ?_ ?_ Tryd.underlying30 rfl infoDec2 _ _ ?_ ?_
      · rfl
      · exact (HE.out.setR _).setE _
      · rfl
      · rfl
    · exact ref_done HFL.out HRW.out (two_set _ _) (by omega) (HP.out.keep2 HK.out (two_set _ _) (by omega)) HBr.out (Nat.le_refl _) (fun a m' c' e hp => Nat.le_trans (by omega) (HP.out.2 a m' c' e hp))
  ·
    have hml : L'.length = m := argB_len HP.out.1
    have hnm : n ≤ m := by omega
    rw [hz]
    have HLN := Lib.hid (length_any _ (L'.take n) wr (HA.out.take n hnm) (by rw [List.length_take]; omega) (by rw [hn3, List.length_take]; omega) (by rw [List.length_take]; omega))
    have hnc : n ≤ c4 := by omega
    have HMF := Lib.hid hmf
    clear hz hn3 hmf
    go_wp2_with fail
    refine HLN.out.mono ?_
    rintro e w6 ⟨rfl, hb6⟩
    have HDb := Lib.hid (HD.out.keep hb6)
    have HEb := Lib.hid (HE.out.keep hb6)
    have HRb := Lib.hid (rows_below HRW.out hb6)
    have HKb := Lib.hid (HK.out.trans (Kx.of_below (X := (· = w.heap.size)) hb6) (fun _ _ h => h))
    have HBb := Lib.hid (HBr.out.trans (hb6.mono HBr.out.size))
    have HAb := Lib.hid (argB_below HA.out hb6)
    clear hb6 d0 d1 dz0 dz1 x0 x1 xz0 xz1
    obtain ⟨d0, d1, dz0, dz1⟩ := refAt_cells HDb.out
    obtain ⟨x0, x1, xz0, xz1⟩ := refAt_cells HEb.out
    cases hsf : sizeF (L'.take n) with
    | none =>
      have HFL := Lib.hid (show feedL L = (acc, [], 30) by
        have h := HMF.out
        rw [hsf] at h
        rw [HF.out, feedL_bad h (by decide), List.append_nil])
      rw [show lengthZ (L'.take n) = -1 by unfold lengthZ; rw [hsf]]
      clear hsf
      go_upto_region 21 with fail
      obtain ⟨W6, hW6⟩ : ∃ W6, W6 = (w6.setCell ⟨w.heap.size, 1, none⟩ (.int .i64 30)).setCell ⟨w.heap.size, 0, none⟩ (.slice none 0 0) := ⟨_, rfl⟩
      have HD6 := Lib.hid (show RefAt W6 w.heap.size (.slice none 0 0) 30 by rw [hW6]; exact (HDb.out.setE 30).setR _)
      have HE6 := Lib.hid (show RefAt W6 (w.heap.size + 1) (.slice none 0 0) 0 by rw [hW6]; exact (HEb.out.other _ (by show w.heap.size + 1 ≠ w.heap.size; omega) _).other _ (by show w.heap.size + 1 ≠ w.heap.size; omega) _)
      have HK6 := Lib.hid (show Kx (Two w.heap.size) w6 W6 by rw [hW6]; exact ((kx_refl (Two w.heap.size) w6).set (X := Two w.heap.size) ⟨w.heap.size, 1, none⟩ (.inl rfl) _).set (X := Two w.heap.size) ⟨w.heap.size, 0, none⟩ (.inl rfl) _)
      rw [← hW6]
      clear hW6 d0 d1 dz0 dz1 x0 x1 xz0 xz1
      obtain ⟨d0, d1, dz0, dz1⟩ := refAt_cells HD6.out
      obtain ⟨x0, x1, xz0, xz1⟩ := refAt_cells HE6.out
      obtain ⟨y0, y1, yz0, yz1⟩ := refAt_cells (HE6.out.setR (.slice none 0 0))
      go_region
      go_wp2
      refine bodyPost_ret (v := .tuple #[.agg #[.slice none 0 0, .int .i64 ((30 : Nat) : Int)], u8, .int .i64 ((30 : Nat) : Int)]) ?_ rfl ?_
      · refine results_cell_two rfl _ _ (w.heap.size + 1) 30 #[.slice none 0 0, .int .i64 30] (0, 0) _ ?_ ?_ Tryd.underlying30 rfl infoDec2 _ _ ?_ ?_
        · rfl
        · exact (HE6.out.setR _).setE _
        · rfl
        · rfl
      · exact ref_done HFL.out HRb.out (two_drew (HK6.out.trans (two_set _ _) (fun _ _ h => h))) (by omega) ⟨Rd.nil _ _ _ _ _, .inl rfl⟩ HBb.out (Nat.le_refl _) (fun a m' c' e _ => by simp at e)
    | some j =>
      rw [show lengthZ (L'.take n) = (j : Int) by unfold lengthZ; rw [hsf]]
      have hjl : j ≤ 999999 := by
        rcases body_two (L'.take n) with ⟨s, h1, h2, _⟩ | ⟨s, h1, _⟩
        · rw [hsf] at h1
          have := Option.some.inj h1
          omega
        · rw [hsf] at h1
          cases h1
      by_cases hbig : 65536 < j
      · have HFL := Lib.hid (show feedL L = (acc, [], 31) by
          have h := HMF.out
          rw [hsf] at h
          dsimp only at h
          rw [if_pos hbig] at h
          rw [HF.out, feedL_bad h (by decide), List.append_nil])
        clear hsf
        go_upto_region 21 with fail
        obtain ⟨W6, hW6⟩ : ∃ W6, W6 = (w6.setCell ⟨w.heap.size, 1, none⟩ (.int .i64 31)).setCell ⟨w.heap.size, 0, none⟩ (.slice none 0 0) := ⟨_, rfl⟩
        have HD6 := Lib.hid (show RefAt W6 w.heap.size (.slice none 0 0) 31 by rw [hW6]; exact (HDb.out.setE 31).setR _)
        have HE6 := Lib.hid (show RefAt W6 (w.heap.size + 1) (.slice none 0 0) 0 by rw [hW6]; exact (HEb.out.other _ (by show w.heap.size + 1 ≠ w.heap.size; omega) _).other _ (by show w.heap.size + 1 ≠ w.heap.size; omega) _)
        have HK6 := Lib.hid (show Kx (Two w.heap.size) w6 W6 by rw [hW6]; exact ((kx_refl (Two w.heap.size) w6).set (X := Two w.heap.size) ⟨w.heap.size, 1, none⟩ (.inl rfl) _).set (X := Two w.heap.size) ⟨w.heap.size, 0, none⟩ (.inl rfl) _)
        rw [← hW6]
        clear hW6 d0 d1 dz0 dz1 x0 x1 xz0 xz1
        obtain ⟨d0, d1, dz0, dz1⟩ := refAt_cells HD6.out
        obtain ⟨x0, x1, xz0, xz1⟩ := refAt_cells HE6.out
        obtain ⟨y0, y1, yz0, yz1⟩ := refAt_cells (HE6.out.setR (.slice none 0 0))
        go_region
        go_wp2
        refine bodyPost_ret (v := .tuple #[.agg #[.slice none 0 0, .int .i64 ((31 : Nat) : Int)], u8, .int .i64 ((31 : Nat) : Int)]) ?_ rfl ?_
        · refine results_cell_two rfl _ _ (w.heap.size + 1) 30 #[.slice none 0 0, .int .i64 31] (0, 0) _ ?_ ?_ Tryd.underlying30 rfl infoDec2 _ _ ?_ ?_
          · rfl
          · exact (HE6.out.setR _).setE _
          · rfl
          · rfl
        · exact ref_done HFL.out HRb.out (two_drew (HK6.out.trans (two_set _ _) (fun _ _ h => h))) (by omega) ⟨Rd.nil _ _ _ _ _, .inl rfl⟩ HBb.out (Nat.le_refl _) (fun a m' c' e _ => by simp at e)
      have HM2 := Lib.hid (show measF L' = (n, j, 0) by
        have h := HMF.out
        rw [hsf] at h
        dsimp only at h
        rw [if_neg hbig] at h
        exact h)
      clear hsf
      by_cases hfit : m < n + j
      · have HFL := Lib.hid (show feedL L = (acc, L', 0) by rw [HF.out, feedL_stop HM2.out (.inr (by omega)), List.append_nil])
        go_wp2
        refine bodyPost_ret (v := .tuple #[.agg #[.slice A4 m c4, .int .i64 ((0 : Nat) : Int)], u8, .int .i64 ((0 : Nat) : Int)]) ?_ rfl ?_
        · refine results_cell_two rfl _ _ (w.heap.size + 1) 30 #[.slice A4 m c4, .int .i64 0] (0, 0) _ ?_ ?_ Tryd.underlying30 rfl infoDec2 _ _ ?_ ?_
          · rfl
          · exact (HEb.out.setR _).setE _
          · rfl
          · rfl
        · exact ref_done HFL.out HRb.out (two_set _ _) (by omega) (HP.out.keep2 HKb.out (two_set _ _) (by omega)) HBb.out (Nat.le_refl _) (fun a m' c' e hp => Nat.le_trans (by omega) (HP.out.2 a m' c' e hp))
      have HNF := Lib.hid (show feedL L = ((acc ++ [(L'.drop n).take j]) ++ (feedL (L'.drop (n + j))).1, (feedL (L'.drop (n + j))).2) by
        rw [HF.out, feedL_step HM2.out (by omega) (by omega)]
        simp)
      obtain ⟨g4, o4, y4, rfl, -, -⟩ := argB_get HA.out (show 0 < m by omega)
      by_cases hcn : c4 = n
      ·
        have hmn : m = n := by omega
        have hj0 : j = 0 := by omega
        subst hj0
        subst hmn
        subst hcn
        have HRS := Lib.hid (show PB W1.heap.size W4 (.slice (some ⟨g4, o4, none⟩) 0 0) (L'.drop (c4 + 0)) by
          have h := HP.out.rest (m := c4) (Nat.le_refl _) (Nat.le_refl _)
          rw [if_pos rfl, Nat.sub_self] at h
          exact h)
        have HARG := Lib.hid (show ArgB w6 (.slice (some ⟨g4, o4, none⟩) 0 0) ((L'.drop c4).take 0) by
          rw [List.take_zero]
          exact ArgB.empty _ _ _)
        have hj5 : 0 ≤ c4 := by omega
        have HCB := Lib.hid (copyBytes_any _ ((L'.drop c4).take 0) w6 HARG.out (by rw [List.length_take]; omega))
        go_wp2_with fail
        refine HCB.out.mono ?_
        rintro e w7 ⟨v7, rfl, ho7, hb7⟩
        obtain ⟨A7, n7, c7, rfl⟩ : ∃ A M c, v7 = Value.slice A M c := by
          obtain ⟨A, c, h⟩ := own_shape ho7.out.2
          exact ⟨A, _, c, h⟩
        obtain ⟨vs, hvs, hel⟩ := rows_open HRb.out
        have HV7 := Lib.hid (own_keep hvs hb7)
        have HE7 := Lib.hid (fun (i : Nat) x (hi : acc[i]? = some x) => show ∃ u, vs[i]? = some u ∧ u.oneCell' = true ∧ w7.ownsRow W4.heap.size 5 1 u x.length (bytesV x) by obtain ⟨u, h1, h2, h3⟩ := hel i x hi; exact ⟨u, h1, h2, own_keep h3 hb7⟩)
        have hw47 : W4.heap.size ≤ w7.heap.size := by have h1 := HKb.out.2.2.2.1; have h2 := hb7.size; omega
        have HU7 := Lib.hid (own_base (B' := W4.heap.size) ho7.out.2 HKb.out.2.2.2.1)
        have HD7 := Lib.hid (HDb.out.keep hb7)
        have HX7 := Lib.hid (HEb.out.keep hb7)
        have HK7 := Lib.hid (HKb.out.trans (Kx.of_below (X := (· = w.heap.size)) hb7) (fun _ _ h => h))
        clear hvs hel ho7 hb7 d0 d1 dz0 dz1 x0 x1 xz0 xz1
        obtain ⟨d0, d1, dz0, dz1⟩ := refAt_cells HD7.out
        go_wp2_with (at_builtin; refine wpList_append_own _ rfl _ _ 22 rfl W4.heap.size 27 i2 _ 1 24 Tryd.underlying22 hi2 hy0 hy1 hy2 rfl (by decide) _ acc.length vs rfl (HV7.out.alloc _) ⟨w7.heap.size, 0, none⟩ 1 1 [.slice A7 n7 c7] rfl rfl (cell_one_new _ _ _) (by intro u hu; simp only [List.mem_singleton] at hu; subst hu; rfl) (by unfold maxLen; omega) (by omega) (by simp; omega) ?_; intro v8 w8 hown8 hgrow8 hnil8; have HNX := Lib.hid (rows_next (Below.refl W4.heap.size w7) hw47 HV7.out HE7.out HU7.out hown8 hgrow8); have HD8 := Lib.hid (show RefAt w8 w.heap.size (.slice (some ⟨g4, o4, none⟩) c4 c4) 0 from (HNX.out.2.block w.heap.size (by omega)).trans HD7.out); have HX8 := Lib.hid (show RefAt w8 (w.heap.size + 1) (.slice none 0 0) 0 from (HNX.out.2.block (w.heap.size + 1) (by omega)).trans HX7.out); obtain ⟨e0, e1, ez0, ez1⟩ := refAt_cells HD8.out; clear hown8 hgrow8 hnil8)
        refine ⟨⟨acc ++ [(L'.drop c4).take 0], L'.drop (c4 + 0), _, _, _, rows_kx HNX.out.1 (Kx.set (X := (· = w.heap.size)) (kx_refl _ w8) ⟨w.heap.size, 0, none⟩ rfl _) (by omega), HD8.out.setR _, HX8.out.other _ (by show w.heap.size + 1 ≠ w.heap.size; omega) _, HRS.out, by omega, by omega, by rw [List.length_append]; simp; omega, HNF.out, ((kx_below HK7.out HNX.out.2).set (X := (· = w.heap.size)) ⟨w.heap.size, 0, none⟩ rfl _)⟩, ?_⟩
        rw [(refAt_cells (HD8.out.setR _)).1, (refAt_cells HD.out).1]
        show 0 < c4
        omega
      by_cases hcj : c4 = n + j
      ·
        have hmn : m = n + j := by omega
        subst hmn
        subst hcj
        have HRS := Lib.hid (show PB W1.heap.size W4 (.slice (some ⟨g4, o4, none⟩) 0 0) (L'.drop (n + j)) by
          have h := HP.out.rest (m := n + j) (Nat.le_refl _) (Nat.le_refl _)
          rw [if_pos rfl, Nat.sub_self] at h
          exact h)
        have HARG := Lib.hid (show ArgB w6 (.slice (some ⟨g4, o4 + n, none⟩) j j) ((L'.drop n).take j) by
          have h := (argB_rest HAb.out (m := n) hnm hmc).take j (by omega)
          rw [if_neg hcn, add_off, Nat.add_sub_cancel_left] at h
          exact h)
        have hj5 : j ≤ n + j := by omega
        have HCB := Lib.hid (copyBytes_any _ ((L'.drop n).take j) w6 HARG.out (by rw [List.length_take]; omega))
        go_wp2_with fail
        refine HCB.out.mono ?_
        rintro e w7 ⟨v7, rfl, ho7, hb7⟩
        obtain ⟨A7, n7, c7, rfl⟩ : ∃ A M c, v7 = Value.slice A M c := by
          obtain ⟨A, c, h⟩ := own_shape ho7.out.2
          exact ⟨A, _, c, h⟩
        obtain ⟨vs, hvs, hel⟩ := rows_open HRb.out
        have HV7 := Lib.hid (own_keep hvs hb7)
        have HE7 := Lib.hid (fun (i : Nat) x (hi : acc[i]? = some x) => show ∃ u, vs[i]? = some u ∧ u.oneCell' = true ∧ w7.ownsRow W4.heap.size 5 1 u x.length (bytesV x) by obtain ⟨u, h1, h2, h3⟩ := hel i x hi; exact ⟨u, h1, h2, own_keep h3 hb7⟩)
        have hw47 : W4.heap.size ≤ w7.heap.size := by have h1 := HKb.out.2.2.2.1; have h2 := hb7.size; omega
        have HU7 := Lib.hid (own_base (B' := W4.heap.size) ho7.out.2 HKb.out.2.2.2.1)
        have HD7 := Lib.hid (HDb.out.keep hb7)
        have HX7 := Lib.hid (HEb.out.keep hb7)
        have HK7 := Lib.hid (HKb.out.trans (Kx.of_below (X := (· = w.heap.size)) hb7) (fun _ _ h => h))
        clear hvs hel ho7 hb7 d0 d1 dz0 dz1 x0 x1 xz0 xz1
        obtain ⟨d0, d1, dz0, dz1⟩ := refAt_cells HD7.out
        go_wp2_with (at_builtin; refine wpList_append_own _ rfl _ _ 22 rfl W4.heap.size 27 i2 _ 1 24 Tryd.underlying22 hi2 hy0 hy1 hy2 rfl (by decide) _ acc.length vs rfl (HV7.out.alloc _) ⟨w7.heap.size, 0, none⟩ 1 1 [.slice A7 n7 c7] rfl rfl (cell_one_new _ _ _) (by intro u hu; simp only [List.mem_singleton] at hu; subst hu; rfl) (by unfold maxLen; omega) (by omega) (by simp; omega) ?_; intro v8 w8 hown8 hgrow8 hnil8; have HNX := Lib.hid (rows_next (Below.refl W4.heap.size w7) hw47 HV7.out HE7.out HU7.out hown8 hgrow8); have HD8 := Lib.hid (show RefAt w8 w.heap.size (.slice (some ⟨g4, o4, none⟩) (n + j) (n + j)) 0 from (HNX.out.2.block w.heap.size (by omega)).trans HD7.out); have HX8 := Lib.hid (show RefAt w8 (w.heap.size + 1) (.slice none 0 0) 0 from (HNX.out.2.block (w.heap.size + 1) (by omega)).trans HX7.out); obtain ⟨e0, e1, ez0, ez1⟩ := refAt_cells HD8.out; clear hown8 hgrow8 hnil8)
        refine ⟨⟨acc ++ [(L'.drop n).take j], L'.drop (n + j), _, _, _, rows_kx HNX.out.1 (Kx.set (X := (· = w.heap.size)) (kx_refl _ w8) ⟨w.heap.size, 0, none⟩ rfl _) (by omega), HD8.out.setR _, HX8.out.other _ (by show w.heap.size + 1 ≠ w.heap.size; omega) _, HRS.out, by omega, by omega, by rw [List.length_append]; simp; omega, HNF.out, ((kx_below HK7.out HNX.out.2).set (X := (· = w.heap.size)) ⟨w.heap.size, 0, none⟩ rfl _)⟩, ?_⟩
        rw [(refAt_cells (HD8.out.setR _)).1, (refAt_cells HD.out).1]
        show 0 < n + j
        omega
      have HRS := Lib.hid (show PB W1.heap.size W4 (.slice (some ⟨g4, o4 + (n + j), none⟩) (m - (n + j)) (c4 - (n + j))) (L'.drop (n + j)) by
        have h := HP.out.rest (m := n + j) (by omega) hmc
        rw [if_neg hcj, add_off] at h
        exact h)
      have HARG := Lib.hid (show ArgB w6 (.slice (some ⟨g4, o4 + n, none⟩) j (c4 - n)) ((L'.drop n).take j) by
        have h := (argB_rest HAb.out (m := n) hnm hmc).take j (by omega)
        rw [if_neg hcn, add_off] at h
        exact h)
      have hj5 : j ≤ m := by omega
      have HCB := Lib.hid (copyBytes_any _ ((L'.drop n).take j) w6 HARG.out (by rw [List.length_take]; omega))
      go_wp2_with fail
      refine HCB.out.mono ?_
      rintro e w7 ⟨v7, rfl, ho7, hb7⟩
      obtain ⟨A7, n7, c7, rfl⟩ : ∃ A M c, v7 = Value.slice A M c := by
        obtain ⟨A, c, h⟩ := own_shape ho7.out.2
        exact ⟨A, _, c, h⟩
      obtain ⟨vs, hvs, hel⟩ := rows_open HRb.out
      have HV7 := Lib.hid (own_keep hvs hb7)
      have HE7 := Lib.hid (fun (i : Nat) x (hi : acc[i]? = some x) => show ∃ u, vs[i]? = some u ∧ u.oneCell' = true ∧ w7.ownsRow W4.heap.size 5 1 u x.length (bytesV x) by obtain ⟨u, h1, h2, h3⟩ := hel i x hi; exact ⟨u, h1, h2, own_keep h3 hb7⟩)
      have hw47 : W4.heap.size ≤ w7.heap.size := by have h1 := HKb.out.2.2.2.1; have h2 := hb7.size; omega
      have HU7 := Lib.hid (own_base (B' := W4.heap.size) ho7.out.2 HKb.out.2.2.2.1)
      have HD7 := Lib.hid (HDb.out.keep hb7)
      have HX7 := Lib.hid (HEb.out.keep hb7)
      have HK7 := Lib.hid (HKb.out.trans (Kx.of_below (X := (· = w.heap.size)) hb7) (fun _ _ h => h))
      clear hvs hel ho7 hb7 d0 d1 dz0 dz1 x0 x1 xz0 xz1
      obtain ⟨d0, d1, dz0, dz1⟩ := refAt_cells HD7.out
      go_wp2_with (at_builtin; refine wpList_append_own _ rfl _ _ 22 rfl W4.heap.size 27 i2 _ 1 24 Tryd.underlying22 hi2 hy0 hy1 hy2 rfl (by decide) _ acc.length vs rfl (HV7.out.alloc _) ⟨w7.heap.size, 0, none⟩ 1 1 [.slice A7 n7 c7] rfl rfl (cell_one_new _ _ _) (by intro u hu; simp only [List.mem_singleton] at hu; subst hu; rfl) (by unfold maxLen; omega) (by omega) (by simp; omega) ?_; intro v8 w8 hown8 hgrow8 hnil8; have HNX := Lib.hid (rows_next (Below.refl W4.heap.size w7) hw47 HV7.out HE7.out HU7.out hown8 hgrow8); have HD8 := Lib.hid (show RefAt w8 w.heap.size (.slice (some ⟨g4, o4, none⟩) m c4) 0 from (HNX.out.2.block w.heap.size (by omega)).trans HD7.out); have HX8 := Lib.hid (show RefAt w8 (w.heap.size + 1) (.slice none 0 0) 0 from (HNX.out.2.block (w.heap.size + 1) (by omega)).trans HX7.out); obtain ⟨e0, e1, ez0, ez1⟩ := refAt_cells HD8.out; clear hown8 hgrow8 hnil8)
      refine ⟨⟨acc ++ [(L'.drop n).take j], L'.drop (n + j), _, _, _, rows_kx HNX.out.1 (Kx.set (X := (· = w.heap.size)) (kx_refl _ w8) ⟨w.heap.size, 0, none⟩ rfl _) (by omega), HD8.out.setR _, HX8.out.other _ (by show w.heap.size + 1 ≠ w.heap.size; omega) _, HRS.out, by omega, by omega, by rw [List.length_append]; simp; omega, HNF.out, ((kx_below HK7.out HNX.out.2).set (X := (· = w.heap.size)) ⟨w.heap.size, 0, none⟩ rfl _)⟩, ?_⟩
      rw [(refAt_cells (HD8.out.setR _)).1, (refAt_cells HD.out).1]
      show m - (n + j) < m
      omega
/-- the reference's Feed, alive or dead. -/
theorem refFeed_any (A : Option Addr) (rn rc : Nat) (u : Value) (r b : List UInt8) (e : Nat) (w : World) (hr : ArgB w (.slice A rn rc) r) (hu : ArgB w u b) (hl : r.length + b.length ≤ 900000) : Calls Tryd.prog 15 #[.agg #[.slice A rn rc, .int .i64 (e : Nat)], u] w fun x w' =>
    ∃ A' n' c' v, x = .returned (.tuple #[.agg #[.slice A' n' c', .int .i64 ((stepF r e b).2.2 : Nat)], v, .int .i64 ((stepF r e b).2.2 : Nat)]) ∧ RowKit.Hid (ArgB w' (.slice A' n' c') (stepF r e b).2.1 ∧ Rows w.heap.size noX (stepF r e b).1 v w' ∧ ((∀ a m k, Value.slice A' n' c' = .slice (some a) m k → 0 < m → w.heap.size ≤ a.block) ∨ Value.slice A' n' c' = .slice A rn rc)) ∧ RowKit.Hid (Below w.heap.size w w') := by
  by_cases he : e = 0
  · subst he
    have hs : stepF r 0 b = feedL (r ++ b) := by unfold stepF; rw [if_neg (by simp)]
    rw [hs]
    refine (refFeed_live A rn rc u r b (r ++ b) w hr hu rfl hl).mono ?_
    rintro x w' ⟨A', n', c', v, h1, h2, h3, h4, h5⟩
    exact ⟨A', n', c', v, h1, ⟨h2, h3, .inl h5⟩, h4⟩
  · have hs : stepF r e b = ([], r, e) := by unfold stepF; rw [if_pos he]
    rw [hs]
    refine (refFeed_dead A rn rc u e w he).mono ?_
    rintro x w' ⟨h1, h2⟩
    exact ⟨A, rn, rc, _, h1, ⟨argB_below hr h2, rows_nil _ _ _, .inr rfl⟩, h2⟩
end Go.Proofs.YtphnplpgeoleeaaDoor
