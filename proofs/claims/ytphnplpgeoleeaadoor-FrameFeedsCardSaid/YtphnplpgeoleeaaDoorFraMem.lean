/- FrameMemory's walk. -/
import Derived.Test.YtphnplpgeoleeaaDoorFraS
import Derived.Test.YtphnplpgeoleeaaDoorFraN
import Derived.Test.YtphnplpgeoleeaaDoorFraEnc
import Derived.Deep.CutRange
namespace Go.Proofs.YtphnplpgeoleeaaDoor
open Go.RowKit Go.Lib Go.Shelf
set_option maxRecDepth 100000
set_option linter.unusedVariables false
set_option linter.unusedSectionVars false

theorem xor255_all : ∀ n : Fin 256, bits BinOp.xor IntKind.u8 ((n.val : Nat) : Int) 255 = ((255 - n.val : Nat) : Int) := by decide +kernel
theorem xor255 (c : UInt8) : ∃ d : UInt8, bits BinOp.xor IntKind.u8 ((c.toNat : Nat) : Int) 255 = ((d.toNat : Nat) : Int) := by
  have hc := c.toNat_lt
  refine ⟨UInt8.ofNat (255 - c.toNat), ?_⟩
  rw [show bits BinOp.xor IntKind.u8 ((c.toNat : Nat) : Int) 255 = ((255 - c.toNat : Nat) : Int) from xor255_all ⟨c.toNat, c.toNat_lt⟩]
  have : (UInt8.ofNat (255 - c.toNat)).toNat = 255 - c.toNat := by simp; omega
  rw [this]
/-- bytes that are told anew, one by one. -/
def XorI (B g n c : Nat) (ws wr : World) : Prop := (∃ l : List UInt8, l.length = n ∧ wr.ownsRow B 5 1 (.slice (some ⟨g, 0, none⟩) n c) n (bytesV l)) ∧ Kx (· = g) ws wr
theorem xorI_start {B g n c : Nat} {w : World} {l : List UInt8} (h : w.ownsRow B 5 1 (.slice (some ⟨g, 0, none⟩) n c) l.length (bytesV l)) (hn : l.length = n) : XorI B g n c w w := by
  subst hn
  exact ⟨⟨l, rfl, h⟩, rfl, rfl, rfl, Nat.le_refl _, fun _ _ _ => rfl⟩
theorem xorI_cell {B g n c : Nat} {ws wr : World} (h : XorI B g n c ws wr) {j : Nat} (hj : j < n) : ∃ x d : UInt8, wr.cell? ⟨g, j, none⟩ = some (.int .u8 (x.toNat : Nat)) ∧ wr.frozen? ⟨g, j, none⟩ = false ∧ bits BinOp.xor IntKind.u8 ((x.toNat : Nat) : Int) 255 = ((d.toNat : Nat) : Int) ∧ XorI B g n c ws (wr.setCell ⟨g, j, none⟩ (.int .u8 (d.toNat : Nat))) := by
  obtain ⟨⟨l, hl, ho⟩, hk⟩ := h
  have hjl : j < l.length := by omega
  obtain ⟨d, hd⟩ := xor255 l[j]
  refine ⟨l[j], d, ?_, ho.frozenAt j, hd, ⟨l.set j d, by simpa using hl, ?_⟩, hk.set (X := (· = g)) ⟨g, j, none⟩ rfl _⟩
  · rw [ho.cellAt j (by omega)]
    exact bytesV_get l j hjl
  · have h2 := (ho.stored j (.int .u8 (d.toNat : Nat))).1
    have e : (bytesV l).set j (.int .u8 (d.toNat : Nat)) = bytesV (l.set j d) := by
      unfold bytesV
      rw [List.map_set]
      rfl
    rwa [e] at h2
theorem xorI_argB {B g n c : Nat} {ws wr : World} (h : XorI B g n c ws wr) {v : Value} {l : List UInt8} (ha : ArgB ws v l) (hne : ∀ a m k, v = .slice (some a) m k → 0 < m → a.block ≠ g) : ArgB wr v l := by
  obtain ⟨⟨hl, A, k, e, hc, hr⟩, h2⟩ := ha
  refine ⟨⟨hl, A, k, e, hc, fun hp => ?_⟩, h2⟩
  obtain ⟨b, o, rfl, hb, hr⟩ := hr hp
  have hkx := h.2
  refine ⟨b, o, rfl, Nat.lt_of_lt_of_le hb hkx.2.2.2.1, fun j hj => ?_⟩
  have hblk := hkx.2.2.2.2 b hb (hne _ _ _ e hp)
  rw [← hr j hj]
  unfold World.cell?
  rw [show (⟨b, o + j, none⟩ : Addr).block = b from rfl, hblk]
theorem Dec.xor {ws wr : World} {B D : Nat} {hv : Value} {r : List UInt8} {e g : Nat} (h : Dec ws B D hv r e) (hk : Kx (· = g) ws wr) (hD : D ≠ g) (hv' : hv.ownBlock ≠ some g) : Dec wr B D hv r e :=
  ⟨h.1, (hk.2.2.2.2 D (dec_lt h.2.1) hD).trans h.2.1, own_same h.2.2 (fun g' hg' => hk.2.2.2.2 g' (h.2.2.lt g' hg').2 (fun e => hv' (by rw [hg', e])))⟩
theorem rows_kx {b : Nat} {X : Nat → Prop} {acc : List (List UInt8)} {v : Value} {ws wr : World} {g : Nat} (h : Rows b X acc v ws) (hk : Kx (· = g) ws wr) (hg : g < b) : Rows b X acc v wr := by
  obtain ⟨vs, h1, hx, h3⟩ := h
  refine ⟨vs, own_same h1 (fun g' hg' => hk.2.2.2.2 g' (h1.lt g' hg').2 (fun e => by have := (h1.lt g' hg').1; omega)), hx, fun i x hi => ?_⟩
  obtain ⟨u, hu, h1c, ho, hxu⟩ := h3 i x hi
  exact ⟨u, hu, h1c, own_same ho (fun g' hg' => hk.2.2.2.2 g' (ho.lt g' hg').2 (fun e => by have := (ho.lt g' hg').1; omega)), hxu⟩
theorem own_some {w : World} {B e size n : Nat} {v : Value} {xs : List Value} (h : w.ownsRow B e size v n xs) (hne : v ≠ .slice none 0 0) : ∃ g c, v = .slice (some ⟨g, 0, none⟩) n c ∧ B ≤ g ∧ g < w.heap.size := by
  rcases h.2 with ⟨rfl, _⟩ | ⟨g, cap, cur, rfl, hb, hg, _⟩
  · exact absurd rfl hne
  · exact ⟨g, cap, rfl, hb, (Array.getElem?_eq_some_iff.1 hg).1⟩
/-- bytes at a letter, told anew. -/
def XorJ (B : Nat) (u : Value) (n : Nat) (ws wr : World) : Prop := (∃ l : List UInt8, l.length = n ∧ wr.ownsRow B 5 1 u n (bytesV l)) ∧ Kx (fun g => u.ownBlock = some g) ws wr
theorem xorJ_cell {B n nu c : Nat} {A : Option Addr} {ws wr : World} (h : XorJ B (.slice A nu c) n ws wr) {j : Nat} (hj : j < n) : ∃ g, A = some ⟨g, 0, none⟩ ∧ nu = n ∧ g < wr.heap.size ∧ ∃ x d : UInt8, wr.cell? ⟨g, j, none⟩ = some (.int .u8 (x.toNat : Nat)) ∧ wr.frozen? ⟨g, j, none⟩ = false ∧ bits BinOp.xor IntKind.u8 ((x.toNat : Nat) : Int) 255 = ((d.toNat : Nat) : Int) ∧ XorJ B (.slice A nu c) n ws (wr.setCell ⟨g, j, none⟩ (.int .u8 (d.toNat : Nat))) := by
  obtain ⟨⟨l, hl, ho⟩, hk⟩ := h
  obtain ⟨g, c', e, hb, hlt⟩ := own_some ho (fun e => by
    rcases ho.2 with ⟨_, h0⟩ | ⟨g, cap, cur, e2, _⟩
    · omega
    · rw [e] at e2
      simp at e2)
  simp only [Value.slice.injEq] at e
  obtain ⟨rfl, rfl, rfl⟩ := e
  obtain ⟨x, d, h1, h2, h3, h4⟩ := xorI_cell (ws := wr) ⟨⟨l, hl, ho⟩, rfl, rfl, rfl, Nat.le_refl _, fun _ _ _ => rfl⟩ hj
  exact ⟨g, rfl, rfl, hlt, x, d, h1, h2, h3, h4.1, hk.trans h4.2 (fun g' _ h => by rw [show g' = g from h]; rfl)⟩
theorem Dec.kx {ws wr : World} {B D : Nat} {hv : Value} {r : List UInt8} {e : Nat} {X : Nat → Prop} (h : Dec ws B D hv r e) (hk : Kx X ws wr) (hx : ∀ g, decX D hv g → ¬ X g) : Dec wr B D hv r e :=
  ⟨h.1, (hk.2.2.2.2 D (dec_lt h.2.1) (hx D (.inl rfl))).trans h.2.1, own_same h.2.2 (fun g' hg' => hk.2.2.2.2 g' (h.2.2.lt g' hg').2 (hx g' (.inr hg')))⟩
theorem rows_one {b : Nat} {X : Nat → Prop} {x : List UInt8} {A : Option Addr} {n c : Nat} {w : World} (h : Rows b X [x] (.slice A n c) w) : ∃ g9 u, A = some ⟨g9, 0, none⟩ ∧ b ≤ g9 ∧ g9 < w.heap.size ∧ w.heap[g9]?.map Obj.isCells = some true ∧ w.cell? ⟨g9, 0, none⟩ = some u ∧ w.ownsRow b 5 1 u x.length (bytesV x) ∧ (∀ g, u.ownBlock = some g → ¬ X g) ∧ u.ownBlock ≠ some g9 := by
  obtain ⟨vs, h1, hx, h3⟩ := h
  obtain ⟨u, hu, -, ho, hxu⟩ := h3 0 x rfl
  obtain ⟨g9, c', e, hb, hlt⟩ := own_some h1 (fun e => by
    rcases h1.2 with ⟨_, h0⟩ | ⟨g, cap, cur, e2, _⟩
    · simp at h0
    · rw [e] at e2
      simp at e2)
  simp only [Value.slice.injEq] at e
  obtain ⟨rfl, hn, rfl⟩ := e
  subst hn
  refine ⟨g9, u, rfl, hb, hlt, ?_, ?_, ho, hxu, ?_⟩
  · rcases h1.2 with ⟨e, _⟩ | ⟨g, cap, cur, e, _, hg, _⟩
    · simp at e
    · simp only [Value.slice.injEq, Option.some.injEq, Addr.mk.injEq, and_true, true_and] at e
      obtain ⟨rfl, _⟩ := e
      rw [hg]
      rfl
  · rw [h1.cellAt 0 (by simp)]
    exact hu
  · have := rows_types ho h1 (by decide)
    rcases this with h | h
    · rw [h]
      simp
    · exact h
theorem kx_cell {X : Nat → Prop} {ws wr : World} (hk : Kx X ws wr) {a : Addr} (hx : ¬ X a.block) {u : Value} (h : ws.cell? a = some u) : wr.cell? a = some u := by
  have hlt : a.block < ws.heap.size := by
    rcases Nat.lt_or_ge a.block ws.heap.size with h1 | h1
    · exact h1
    · exfalso
      unfold World.cell? at h
      rw [Array.getElem?_eq_none h1] at h
      cases h
  rw [← h]
  unfold World.cell?
  rw [hk.2.2.2.2 _ hlt hx]
theorem kx_refl (X : Nat → Prop) (w : World) : Kx X w w := ⟨rfl, rfl, rfl, Nat.le_refl _, fun _ _ _ => rfl⟩
set_option maxHeartbeats 2000000 in
theorem frameMemory_walk (v0 : Value) (l0 : List UInt8) (z1 : Int) (w : World) (h0' : ArgBS w v0 l0) (hz : (Lit.int .i64 z1).wf = true) (hT : Pow w) (hM : MaxL w) : Calls Tryd.prog 9 #[v0, .int .i64 z1] w (TruePost w) := by
  have HAL := Lib.hid (alive_any w hT hM)
  have HT := Lib.hid hT
  have HM := Lib.hid hM
  have hML := maxL_lt hM
  obtain ⟨h0, hs0⟩ := h0'
  have H0 := Lib.hid h0
  obtain ⟨A0, c0, rfl, hc0⟩ := h0.shape
  clear h0 hT hM
  go_enter Tryd.func9, Tryd.ntmps9
  go_wp2_with fail
  refine HAL.out.mono ?_
  rintro e w1 ⟨rfl, hb1⟩
  have HB1 := Lib.hid hb1
  clear hb1
  by_cases hbig : (65536 : Int) < (l0.length : Int)
  · have hg := decide_eq_true hbig
    go_wp2
    go_ret
    exact ⟨rfl, HB1.out⟩
  · have hg := decide_eq_false hbig
    have hsz : l0.length ≤ 65536 := by omega
    clear hbig
    go_wp2_with fail
    refine (copyBytes_any _ l0 w1 (argB_below H0.out HB1.out) (by omega)).mono ?_
    rintro e w2 ⟨v2, rfl, ho2, hb2⟩
    have HB2 := Lib.hid (HB1.out.trans (hb2.mono HB1.out.size))
    have HEN := Lib.hid (encode_any v2 l0 w2 (own_argB ho2.out.2) hsz (pow_below HT.out HB2.out))
    clear ho2 hb2
    go_wp2_with fail
    refine HEN.out.mono ?_
    rintro e w3 ⟨v3, rfl, ha3, hb3⟩
    have HB3 := Lib.hid (HB2.out.trans (hb3.mono HB2.out.size))
    obtain ⟨A3, c3, rfl, hc3⟩ := ha3.out.shape
    obtain ⟨X, hX⟩ : ∃ X, X = encF l0 := ⟨_, rfl⟩
    have hXl : X.length ≤ 65600 := by
      have h := encR_len l0
      unfold encR at h
      rw [if_neg (by omega), ← hX] at h
      exact h
    rw [← hX] at ha3 hc3 ⊢
    have HX := Lib.hid hX
    obtain ⟨n, hn⟩ : ∃ n, n = X.length := ⟨_, rfl⟩
    rw [← hn] at ha3 hc3 hXl ⊢
    have HN := Lib.hid hn
    clear hX hn hb3
    go_wp2_with fail
    refine (new_dec w3).mono ?_
    rintro e w4 ⟨rfl, hd4, hb4⟩
    have HB4 := Lib.hid (HB3.out.trans (hb4.out.mono HB3.out.size))
    have HA4 := Lib.hid (argB_below ha3.out hb4.out)
    go_upto_region 10 with fail
    go_cut [41] from 34 to 41 (fun bv wx => wx = w4 ∧ ∃ b : Bool, bv = .bool b ∧ (b = true → 0 < z1 ∧ z1 < n))
    case first =>
      by_cases hz0 : 0 < z1
      · have hg1 := decide_eq_true hz0
        go_wp2
        all_goals
          go_meet
          exact ⟨rfl, _, rfl, fun h => ⟨hz0, by simpa using h⟩⟩
      · have hg1 := decide_eq_false hz0
        go_wp2
        all_goals
          go_meet
          exact ⟨rfl, false, rfl, fun h => by cases h⟩
    case rest =>
    obtain ⟨rfl, b, rfl, hbz⟩ := hcut
    have HBZ := Lib.hid hbz
    clear hbz
    go_upto_if 41 with fail
    go_cut [8] from 42 to 42 (fun kv wx => wx = wc ∧ ∃ k : Nat, (k = 0 ∨ k < n) ∧ kv = .int .i64 k)
    case first =>
      cases b with
      | true =>
        obtain ⟨hz0, hzn⟩ := HBZ.out rfl
        obtain ⟨k, rfl⟩ : ∃ k : Nat, z1 = k := ⟨z1.toNat, by omega⟩
        go_wp2
        go_meet
        exact ⟨rfl, k, .inr (by omega), rfl⟩
      | false =>
        go_wp2
        go_meet
        exact ⟨rfl, 0, .inl rfl, rfl⟩
    case rest =>
      obtain ⟨rfl, k, hk, rfl⟩ := hcut
      -- REST
      have hn20 : 16 ≤ n := by
        have := HN.out
        rw [HX.out] at this
        simp [encF, headF, sizeName] at this
        omega
      cases A3 with
      | none =>
        exfalso
        rcases ha3.out.2 with h | ⟨a, c, h⟩
        · simp only [Value.slice.injEq] at h
          omega
        · simp at h
      | some a3 =>
      have ha3b : a3.block < w3.heap.size := by
        obtain ⟨⟨_, A, c, e, _, hr⟩, _⟩ := ha3.out
        obtain ⟨g, o, rfl, hg, _⟩ := hr (by have := HN.out; omega)
        simp only [Value.slice.injEq, Option.some.injEq] at e
        rw [e.1]
        exact hg
      have hkn : k < n := by omega
      have hne : ¬ c3 = k := by omega
      clear hk
      have HK4 := Lib.hid (HA4.out.take k (by omega))
      have hb4s : w3.heap.size ≤ wc.heap.size := hb4.out.size
      have hD4 : w3.heap.size < wc.heap.size := dec_lt hd4.out.2.1
      have hw3 : w.heap.size ≤ w3.heap.size := HB3.out.size
      have HXT := Lib.hid (show stepF [] 0 (X.take k) = ([], X.take k, 0) by
        have := HN.out
        rw [HX.out]
        exact feedL_enc_front l0 hsz k (by rw [← HX.out]; omega))
      have HXR := Lib.hid (show stepF (X.take k) 0 (X.drop k) = ([l0], [], 0) by
        show feedL (X.take k ++ X.drop k) = _
        rw [List.take_append_drop, HX.out]
        have h := feedL_enc l0 [] hsz
        rw [feedL_nil, List.append_nil] at h
        exact h)
      have HXA := Lib.hid (show stepF [] 0 X = ([l0], [], 0) by
        show feedL ([] ++ X) = _
        rw [List.nil_append, HX.out]
        have h := feedL_enc l0 [] hsz
        rw [feedL_nil, List.append_nil] at h
        exact h)
      have hkX : (X.take k).length = k := by have := HN.out; rw [List.length_take]; omega
      have hdX : (X.drop k).length = n - k := by have := HN.out; rw [List.length_drop]; omega
      have HB0' : 0 < w3.heap.size := by omega
      clear HA4
      go_wp2_with fail
      refine (copyBytes_any _ (X.take k) wc HK4.out (by omega)).mono ?_
      rintro e w5 ⟨v5, rfl, ho5, hb5⟩
      obtain ⟨g5, c5, hv5, hg5, -⟩ := own_some ho5.out.2 ho5.out.1
      rw [hkX] at hv5
      subst hv5
      have HO5 := Lib.hid (ho5.out.2)
      have HC5 := Lib.hid (hb4.out.trans (hb5.mono hb4.out.size))
      have HD5 := Lib.hid (hd4.out.keep hb5)
      have HF1 := feed_any w3.heap.size w3.heap.size _ _ [] (X.take k) 0 w5 HD5.out HC5.out.size HB0' (own_argB HO5.out) (by rw [List.length_nil]; omega) (maxL_below HM.out (HB3.out.trans (HC5.out.mono hw3)) hML)
      rw [HXT.out] at HF1
      clear ho5 hb5 hd4
      go_wp2_with fail
      refine HF1.mono ?_
      rintro e w6 ⟨A6, c6, hv6, rfl, HQ6⟩
      clear HF1
      have hg5w : g5 < w5.heap.size := (HO5.out.lt g5 rfl).2
      have HC6 := Lib.hid (HC5.out.trans HQ6.out.2.2.2.1)
      have hC6s : w3.heap.size ≤ w6.heap.size := HC6.out.size
      have hb56 : w5.heap.size ≤ w6.heap.size := HQ6.out.2.2.1.2.2.2.1
      have HO6 := Lib.hid (own_same HO5.out (fun g hg => HQ6.out.2.2.1.2.2.2.2 g (by cases hg; exact hg5w) (fun h => by
        cases hg
        rcases h with h | h
        · have h2 : g5 = w3.heap.size := h
          omega
        · simp [Value.ownBlock] at h)))
      have HX6 := Lib.hid (xorI_start HO6.out hkX)
      have hvg : hv6.ownBlock ≠ some g5 := fun h => by
        have := HQ6.out.2.2.2.2 g5 hg5w h
        simp [Value.ownBlock] at this
      have HD6 := Lib.hid HQ6.out.1
      clear HO6
      go_wp2
      go_loopw [10] (fun i wr => ∃ j : Nat, j ≤ k ∧ i = .int .i64 j ∧ RowKit.Hid (XorI wc.heap.size g5 k c5 w6 wr)) (fun i _ => k - (RowKit.intOf i).toNat)
      case atStart => exact ⟨0, by omega, rfl, HX6.out⟩
      case round =>
      obtain ⟨j, hj, rfl, HJ⟩ := hrel
      by_cases hjn : j < k
      · obtain ⟨x, d, hc1, hf1, hbx, hnx⟩ := xorI_cell HJ.out hjn
        have HNX := Lib.hid hnx
        clear hnx
        go_wp2
        go_roundw
        case rel => exact ⟨j + 1, by omega, by go_num, HNX.out⟩
        case measure => (simp [RowKit.intOf] <;> omega)
      clear hj
      rename World => w7
      have HK7 := Lib.hid HJ.out.2
      have HC7 := Lib.hid (HC6.out.trans (HK7.out.below hC6s (fun g h => by have h2 : g = g5 := h; omega)))
      have HD7 := Lib.hid (HD6.out.xor HK7.out (by omega) hvg)
      obtain ⟨m, hm⟩ : ∃ m, m = n - k := ⟨_, rfl⟩
      have HA7 := Lib.hid (show ArgB w7 (.slice (some (a3.add k)) (n - k) (c3 - k)) (X.drop k) from (argB_below ha3.out HC7.out).drop k (by omega) (by omega))
      rw [← hm] at hdX HA7
      have hC7s : wc.heap.size ≤ w7.heap.size := by have := HK7.out.2.2.2.1; omega
      have hCw : w3.heap.size ≤ w7.heap.size := by omega
      have hvb : ∀ g, hv6.ownBlock = some g → g < w7.heap.size := fun g hg => (HD7.out.2.2.lt g hg).2
      have HM7 := Lib.hid hm
      have hmn : m ≤ n := by omega
      clear hm
      go_wp2_with fail
      rw [← HM7.out]
      refine (copyBytes_any _ (X.drop k) w7 HA7.out (by omega)).mono ?_
      rintro e w8 ⟨v8, rfl, ho8, hb8⟩
      obtain ⟨g8, c8, hv8, hg8, -⟩ := own_some ho8.out.2 ho8.out.1
      rw [hdX] at hv8
      subst hv8
      have HO8 := Lib.hid (ho8.out.2)
      have HC8 := Lib.hid (HC7.out.trans (hb8.mono hCw))
      have HD8 := Lib.hid (HD7.out.keep hb8)
      have HF2 := feed_any w3.heap.size w3.heap.size _ _ (X.take k) (X.drop k) 0 w8 HD8.out HC8.out.size HB0' (own_argB HO8.out) (by omega) (maxL_below HM.out (HB3.out.trans (HC8.out.mono hw3)) hML)
      rw [HXR.out] at HF2
      clear ho8 hb8
      go_wp2_with fail
      refine HF2.mono ?_
      rintro e w9 ⟨A9, c9, hv9, rfl, HQ9⟩
      clear HF2
      have hg8w : g8 < w8.heap.size := (HO8.out.lt g8 rfl).2
      have HC9 := Lib.hid (HC8.out.trans HQ9.out.2.2.2.1)
      have hC9s : w3.heap.size ≤ w9.heap.size := HC9.out.size
      have hD7l : w3.heap.size < w7.heap.size := dec_lt HD7.out.2.1
      have h6g : hv6.ownBlock ≠ some g8 := fun h => by have := hvb g8 h; omega
      have HO9 := Lib.hid (own_same HO8.out (fun g hg => HQ9.out.2.2.1.2.2.2.2 g (by cases hg; exact hg8w) (fun h => by
        cases hg
        rcases h with h | h
        · have h2 : g8 = w3.heap.size := h
          omega
        · exact h6g h)))
      have HX9 := Lib.hid (xorI_start HO9.out hdX)
      have hvg9 : hv9.ownBlock ≠ some g8 := fun h => h6g (HQ9.out.2.2.2.2 g8 hg8w h)
      have HD9 := Lib.hid HQ9.out.1
      have HR9 := Lib.hid HQ9.out.2.1
      clear HO9
      go_wp2
      go_loopw [13] (fun i wr => ∃ j : Nat, j ≤ m ∧ i = .int .i64 j ∧ RowKit.Hid (XorI w7.heap.size g8 m c8 w9 wr)) (fun i _ => m - (RowKit.intOf i).toNat)
      case atStart => exact ⟨0, by omega, rfl, HX9.out⟩
      case round =>
      obtain ⟨j, hj, rfl, HJ9⟩ := hrel
      by_cases hjn : j < m
      · obtain ⟨x, d, hc1, hf1, hbx, hnx⟩ := xorI_cell HJ9.out hjn
        have HNX := Lib.hid hnx
        clear hnx
        go_wp2
        go_roundw
        case rel => exact ⟨j + 1, by omega, by go_num, HNX.out⟩
        case measure => (simp [RowKit.intOf] <;> omega)
      clear hj
      rename World => wt
      have HK10 := Lib.hid HJ9.out.2
      have HC10 := Lib.hid (HC9.out.trans (HK10.out.below hC9s (fun g h => by have h2 : g = g8 := h; omega)))
      have HD10 := Lib.hid (HD9.out.xor HK10.out (by omega) hvg9)
      have HR10 := Lib.hid (rows_kx HR9.out HK10.out hg8w)
      have hb11 := (Below.refl wt.heap.size wt).alloc (Nat.le_refl _) (.cells #[.slice A0 l0.length c0] 27)
      have HB10 := Lib.hid (HB3.out.trans (HC10.out.mono hw3))
      have hsm : smallRows [l0] := fun x h => by
        simp only [List.mem_singleton] at h
        subst h
        omega
      have HSR := Lib.hid (sameRows_any _ _ [l0] [l0] _ ((rows_argR HR10.out).below hb11) (one_argR wt _ l0 (argB_below H0.out HB10.out)) hsm hsm (by simp) (by simp))
      go_wp2_with fail
      refine HSR.out.mono ?_
      rintro e w11 ⟨he11, q, hw11⟩
      rw [decide_eq_true rfl] at he11
      subst he11
      have HB11 := Lib.hid (show Below wt.heap.size wt w11 by rw [hw11]; exact below_drewN hb11 q)
      clear hw11 hb11
      have HR11 := Lib.hid (HR10.out.below HB11.out)
      have HD11 := Lib.hid (HD10.out.keep HB11.out)
      have HC11 := Lib.hid (HC10.out.trans (HB11.out.mono HC10.out.size))
      have hC8s : w3.heap.size ≤ w8.heap.size := HC8.out.size
      obtain ⟨g9, u, rfl, hg9b, hg9l, -, hcu, hou, hxu, hug⟩ := rows_one HR11.out
      obtain ⟨Au, cu, rfl⟩ := own_shape hou
      have HXU := Lib.hid hxu
      have HUG := Lib.hid hug
      have HOU := Lib.hid hou
      have HCU := Lib.hid hcu
      have HJ0 := Lib.hid (show XorJ w8.heap.size (.slice Au l0.length cu) l0.length w11 w11 from ⟨⟨l0, rfl, hou⟩, kx_refl _ _⟩)
      clear hxu hug hou
      go_wp2
      go_loopw [14] (fun i wr => ∃ j : Nat, j ≤ l0.length ∧ i = .int .i64 j ∧ RowKit.Hid (XorJ w8.heap.size (.slice Au l0.length cu) l0.length w11 wr)) (fun i _ => l0.length - (RowKit.intOf i).toNat)
      case atStart => exact ⟨0, by omega, rfl, HJ0.out⟩
      case round =>
      obtain ⟨j, hj, rfl, HJ11⟩ := hrel
      have hcg : wr.cell? ⟨g9, 0, none⟩ = some (.slice Au l0.length cu) := kx_cell HJ11.out.2 (fun h => HUG.out h) HCU.out
      by_cases hjn : j < l0.length
      · obtain ⟨g, rfl, -, hgl, x, d, hc1, hf1, hbx, hnx⟩ := xorJ_cell HJ11.out hjn
        have HNX := Lib.hid hnx
        clear hnx hcu
        go_wp2
        exact ⟨⟨j + 1, by omega, by go_num, HNX.out⟩, by simp [RowKit.intOf] <;> omega⟩
      clear hj
      rename World => wt12
      have HK12 := Lib.hid HJ11.out.2
      have HC12 := Lib.hid (HC11.out.trans (HK12.out.below HC11.out.size (fun g h => by have := (HOU.out.lt g h).1; omega)))
      have HD12 := Lib.hid (HD11.out.kx HK12.out (fun g h h2 => HXU.out g h2 h))
      have HF3 := feed_any w3.heap.size w3.heap.size _ _ [] X 0 wt12 HD12.out HC12.out.size HB0' (argB_below ha3.out HC12.out) (by have := HN.out; rw [List.length_nil]; omega) (maxL_below HM.out (HB3.out.trans (HC12.out.mono hw3)) hML)
      rw [HXA.out] at HF3
      clear hcu
      go_wp2_with fail
      refine HF3.mono ?_
      rintro e w13 ⟨A13, c13, hv13, rfl, HQ13⟩
      clear HF3
      have HC13 := Lib.hid (HC12.out.trans HQ13.out.2.2.2.1)
      have HB13 := Lib.hid (HB3.out.trans (HC13.out.mono hw3))
      have hb14 := (Below.refl w13.heap.size w13).alloc (Nat.le_refl _) (.cells #[.slice A0 l0.length c0] 27)
      have HSR2 := Lib.hid (sameRows_any _ _ [l0] [l0] _ ((rows_argR HQ13.out.2.1).below hb14) (one_argR w13 _ l0 (argB_below H0.out HB13.out)) hsm hsm (by simp) (by simp))
      have HB14 := Lib.hid (HB13.out.trans (hb14.mono HB13.out.size))
      clear hb14
      go_wp2_with fail
      refine HSR2.out.mono ?_
      rintro e w15 ⟨he15, q15, rfl⟩
      rw [decide_eq_true rfl] at he15
      subst he15
      go_wp2
      go_ret
      exact ⟨rfl, below_drewN HB14.out q15⟩
end Go.Proofs.YtphnplpgeoleeaaDoor
