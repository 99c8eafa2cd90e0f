/- FrameFeeds' walk. -/
import Derived.Test.YtphnplpgeoleeaaDoorFraRf
import Derived.Test.YtphnplpgeoleeaaDoorFraGr
import Derived.Deep.CutRange
import Derived.Deep.RegionHeld3
namespace Go.Proofs.YtphnplpgeoleeaaDoor
open Go.RowKit Go.Lib Go.Shelf
set_option maxRecDepth 100000
set_option linter.unusedVariables false
set_option linter.unusedSectionVars false

/-- what stands behind the reference's Feed and the block that takes its state. -/
def FeeQ (w5 : World) (A : Option Addr) (m c : Nat) (bs5 : List (List UInt8)) (r5 : List UInt8) (e5 : Nat) (A6 : Option Addr) (n6 c6 : Nat) (v6 : Value) (g : Nat) (wx : World) : Prop :=
  Below w5.heap.size w5 wx ∧ w5.heap.size ≤ g ∧ RefAt wx g (.slice A6 n6 c6) (e5 : Nat) ∧ ArgB wx (.slice A6 n6 c6) r5 ∧ Rows w5.heap.size noX bs5 v6 wx ∧ ((∀ a m' k, Value.slice A6 n6 c6 = .slice (some a) m' k → 0 < m' → w5.heap.size ≤ a.block) ∨ Value.slice A6 n6 c6 = .slice A m c)
theorem feeQ_late {w5 W w6 : World} {A : Option Addr} {m c : Nat} {bs5 : List (List UInt8)} {r5 : List UInt8} {e5 : Nat} {A6 : Option Addr} {n6 c6 : Nat} {v6 : Value} (hW : Below w5.heap.size w5 W)
    (h : ArgB w6 (.slice A6 n6 c6) r5 ∧ Rows W.heap.size noX bs5 v6 w6 ∧ ((∀ a m' k, Value.slice A6 n6 c6 = .slice (some a) m' k → 0 < m' → W.heap.size ≤ a.block) ∨ Value.slice A6 n6 c6 = .slice A m c)) (hb : Below W.heap.size W w6) :
    FeeQ w5 A m c bs5 r5 e5 A6 n6 c6 v6 w6.heap.size (w6.alloc (.cells #[.slice A6 n6 c6, .int .i64 (e5 : Nat)] 30)) := by
  have hs := hW.size
  have hs2 := hb.size
  have hb6 := (Below.refl w6.heap.size w6).alloc (Nat.le_refl _) (.cells #[.slice A6 n6 c6, .int .i64 (e5 : Nat)] 30)
  have h56 := hW.trans (hb.mono hs)
  refine ⟨h56.trans (hb6.mono (by omega)), by omega, heap_alloc_new _ _, argB_below h.1 hb6, (h.2.1.below hb6).base hs, ?_⟩
  rcases h.2.2 with h3 | h3
  · exact .inl fun a m' k e hp => Nat.le_trans hs (h3 a m' k e hp)
  · exact .inr h3
theorem feeQ_early {w5 W w6 : World} {A : Option Addr} {m c : Nat} {bs5 : List (List UInt8)} {r r5 : List UInt8} {e5 : Nat} {A6 : Option Addr} {n6 c6 : Nat} {v6 : Value} (hA : ArgB w5 (.slice A m c) r) (hW : Below w5.heap.size w5 W) (hlt : w5.heap.size < W.heap.size) (hR : RefAt W w5.heap.size (.slice none 0 0) 0)
    (h : ArgB w6 (.slice A6 n6 c6) r5 ∧ Rows W.heap.size noX bs5 v6 w6 ∧ ((∀ a m' k, Value.slice A6 n6 c6 = .slice (some a) m' k → 0 < m' → W.heap.size ≤ a.block) ∨ Value.slice A6 n6 c6 = .slice A m c)) (hb : Below W.heap.size W w6) :
    FeeQ w5 A m c bs5 r5 e5 A6 n6 c6 v6 w5.heap.size ((w6.setCell ⟨w5.heap.size, 0, none⟩ (.slice A6 n6 c6)).setCell ⟨w5.heap.size, 1, none⟩ (.int .i64 (e5 : Nat))) := by
  have hs2 := hb.size
  have h56 := hW.trans (hb.mono (by omega))
  have hk : Kx (· = w5.heap.size) w6 ((w6.setCell ⟨w5.heap.size, 0, none⟩ (.slice A6 n6 c6)).setCell ⟨w5.heap.size, 1, none⟩ (.int .i64 (e5 : Nat))) :=
    ((kx_refl (· = w5.heap.size) w6).set (X := (· = w5.heap.size)) ⟨w5.heap.size, 0, none⟩ rfl _).set (X := (· = w5.heap.size)) ⟨w5.heap.size, 1, none⟩ rfl _
  refine ⟨h56.trans (hk.below (by omega) (fun g h => by have h' : g = w5.heap.size := h; omega)), Nat.le_refl _, ((hR.keep hb).setR _).setE _, argB_kx hk h.1 ?_, (rows_kx h.2.1 hk hlt).base (by omega), ?_⟩
  · intro a m' k e hp h2
    have h2' : a.block = w5.heap.size := h2
    rcases h.2.2 with h3 | h3
    · have := h3 a m' k e hp
      omega
    · rw [h3] at e
      simp only [Value.slice.injEq] at e
      obtain ⟨e1, e2, e3⟩ := e
      obtain ⟨⟨_, A', k', e', _, hr⟩, _⟩ := hA
      simp only [Value.slice.injEq] at e'
      obtain ⟨e4, e5, _⟩ := e'
      obtain ⟨g', o, e6, hg, _⟩ := hr (by omega)
      rw [e4, e6, Option.some.injEq] at e1
      rw [← e1] at h2'
      have h5 : g' = w5.heap.size := h2'
      omega
  · rcases h.2.2 with h3 | h3
    · exact .inl fun a m' k e hp => by
        have := h3 a m' k e hp
        omega
    · exact .inr h3

theorem argB_lt {w : World} {A : Option Addr} {m c : Nat} {l : List UInt8} (h : ArgB w (.slice A m c) l) (a : Addr) (m' c' : Nat) (e : Value.slice A m c = .slice (some a) m' c') (hp : 0 < m') : a.block < w.heap.size := by
  simp only [Value.slice.injEq] at e
  obtain ⟨e1, e2, e3⟩ := e
  obtain ⟨⟨_, A', k', e', _, hr⟩, _⟩ := h
  simp only [Value.slice.injEq] at e'
  obtain ⟨e4, e5, _⟩ := e'
  obtain ⟨g', o, e6, hg, _⟩ := hr (by omega)
  rw [e4, e6, Option.some.injEq] at e1
  rw [← e1]
  exact hg
theorem stepF_small (r : List UInt8) (e : Nat) (b : List UInt8) : ∀ x ∈ (stepF r e b).1, x.length ≤ r.length + b.length := by
  unfold stepF
  by_cases h : e ≠ 0
  · rw [if_pos h]
    intro x hx
    simp at hx
  · rw [if_neg h]
    intro x hx
    have := feedL_small _ (r ++ b) (Nat.le_refl _) x hx
    rwa [List.length_append] at this
theorem keepW {wb w' w'' : World} (hb : RowKit.Hid (Below w'.heap.size w' w'')) (h : RowKit.Hid (Below wb.heap.size wb w')) : RowKit.Hid (Below wb.heap.size wb w'') := h.out.trans (hb.out.mono h.out.size)

set_option maxHeartbeats 4000000 in
theorem frameFeeds_walk (v0 : Value) (ls : List (List UInt8)) (w : World) (h0 : ArgRS w v0 ls) (hT : Pow w) (hM : MaxL w) : Calls Tryd.prog 3 #[v0] w (TruePost w) := by
  have HAL := Lib.hid (alive_any w hT hM)
  have HM := Lib.hid hM
  have hML := maxL_lt hM
  have HRS := Lib.hid h0
  obtain ⟨vs, ⟨hl1, A1, c1, rfl, hc1, h1⟩, -, he1⟩ := h0.1
  obtain ⟨n, hn⟩ : ∃ n, n = ls.length := ⟨_, rfl⟩
  rw [← hn] at h1 hc1 HRS ⊢
  have HN := Lib.hid hn
  have R1 := Lib.hid h1
  have E1 := Lib.hid he1
  clear hn h1 hl1 he1 hT hM h0
  go_enter Tryd.func3, Tryd.ntmps3
  go_wp2_with fail
  refine HAL.out.mono ?_
  rintro e w1 ⟨rfl, hb1⟩
  have HB1 := Lib.hid hb1
  clear hb1
  go_wp2_with fail
  refine (great_any _ ls w1 ⟨HRS.out.1.below HB1.out, HRS.out.2⟩).mono ?_
  rintro e w2 ⟨b, rfl, rfl, hgr⟩
  cases b with
  | true =>
    go_wp2
    go_ret
    exact ⟨rfl, HB1.out⟩
  | false =>
  obtain ⟨h200, hsum⟩ := hgr rfl
  have hn200 : n ≤ 200 := by have := HN.out; omega
  clear hgr
  have hws : w.heap.size ≤ w1.heap.size := HB1.out.size
  go_wp2_with fail
  refine (new_dec w1).mono ?_
  rintro e w3 ⟨rfl, hd3, hb3⟩
  have hws3 : w1.heap.size < w3.heap.size := dec_lt hd3.out.2.1
  have hb4 := (Below.refl w3.heap.size w3).alloc (Nat.le_refl _) (.cells #[.slice none 0 0, .int .i64 0] 30)
  have HD4 := Lib.hid (hd3.out.keep hb4)
  have HB4 := Lib.hid (HB1.out.trans ((hb3.out.trans (hb4.mono (by omega))).mono hws))
  have HM4 := Lib.hid (show RefAt (w3.alloc (.cells #[.slice none 0 0, .int .i64 0] 30)) w3.heap.size (.slice none 0 0) 0 from heap_alloc_new _ _)
  clear hd3 hb3 hb4
  go_wp2
  go_loopw [5] (fun iv wr => ∃ (k e : Nat) (r : List UInt8) (hv : Value) (A : Option Addr) (m c : Nat), iv = .int .i64 k ∧ k ≤ n ∧ RowKit.Hid (Dec wr w1.heap.size w1.heap.size hv r e) ∧ RowKit.Hid (RefAt wr w3.heap.size (.slice A m c) (e : Nat)) ∧ RowKit.Hid (ArgB wr (.slice A m c) r ∧ (∀ a m' c', Value.slice A m c = .slice (some a) m' c' → 0 < m' → ¬ decX w1.heap.size hv a.block ∧ a.block ≠ w3.heap.size)) ∧ RowKit.Hid (hv.ownBlock ≠ some w3.heap.size) ∧ RowKit.Hid (∃ acc, feeds [] 0 (ls.take k) = (acc, r, e)) ∧ RowKit.Hid (Below w.heap.size w wr)) (fun iv _ => n - (RowKit.intOf iv).toNat)
  case atStart => exact ⟨0, 0, [], _, _, _, _, rfl, Nat.zero_le _, HD4.out, HM4.out, ⟨⟨Rd.nil _ _ _ _ _, .inl rfl⟩, fun a m' c' e _ => by simp at e⟩, by simp [RowKit.Hid, Value.ownBlock], ⟨[], rfl⟩, HB4.out⟩
  case round =>
  obtain ⟨k, e0, r, hv, A, m, c, rfl, hk, HD, HR, HA, HV, HF, HB⟩ := hrel
  by_cases hkn : k < n
  · obtain ⟨g1, o1, rfl, hg1, hr1⟩ := R1.out (by omega)
    obtain ⟨x, u0, hx, a0, hA0⟩ := ArgR.get (w := w) (c := c1) hr1 HN.out E1.out hkn
    have a1 := (HB.out.cell (p := ⟨g1, o1 + k, none⟩) hg1).trans a0
    have HA0 := Lib.hid hA0
    have HX := Lib.hid hx
    obtain ⟨A0, c0, rfl, hc0⟩ := hA0.shape
    obtain ⟨acc, hacc⟩ := HF.out
    have HACC := Lib.hid hacc
    have hfl := feeds_len _ hacc
    have hjs : (joinL (ls.take k)).length + x.length ≤ 200000 := by
      have h1 := (join_take ls k x hx).2
      have h2 : ∀ l : List (List UInt8), (joinL l).length ≤ sumL l := by
        intro l
        induction l with
        | nil => simp [joinL, sumL]
        | cons y r ih =>
          simp only [joinL, sumL, List.flatten_cons, List.length_append, List.map_cons, List.sum_cons] at *
          omega
      have h3 := h2 ls
      omega
    have hxl : x.length ≤ 200000 := by omega
    have hrl : r.length + x.length ≤ 200000 := by omega
    clear a0 hA0 hr1 hx hacc hfl hjs
    go_wp2_with fail
    refine (spare_any _ x wr (argB_below HA0.out HB.out) (by omega)).mono ?_
    rintro e w4 ⟨v4, rfl, ho4, hb4⟩
    have HB4' := Lib.hid (HB.out.trans (hb4.mono HB.out.size))
    have hln : (x ++ marks).length = x.length + 8 := by rw [List.length_append]; rfl
    have ho4' := ho4.out.2
    obtain ⟨g4, c4, hv4, hg4, hg4l⟩ := own_some ho4.out.2 ho4.out.1
    rw [hln] at hv4
    subst hv4
    have HO4 := Lib.hid ho4'
    have HAP := Lib.hid (show ArgB w4 (.slice (some ⟨g4, 0, none⟩) x.length c4) x by
      have h := (own_argB HO4.out).take x.length (by omega)
      rwa [List.take_left] at h)
    have hc4 : x.length ≤ c4 := by
      obtain ⟨_, A', c', e', hc', _⟩ := HAP.out.1
      simp only [Value.slice.injEq] at e'
      omega
    have hxc : x.length ≤ c4 := hc4
    have HD4' := Lib.hid (HD.out.keep hb4)
    have HR4 := Lib.hid (HR.out.keep hb4)
    have HA4 := Lib.hid (argB_below HA.out.1 hb4)
    have a4 := (hb4.cell (p := ⟨g1, o1 + k, none⟩) (by have := HB.out.size; show g1 < _; omega)).trans a1
    have hwrs : w1.heap.size < wr.heap.size := dec_lt HD.out.2.1
    have hvl : ∀ g, hv.ownBlock = some g → g < wr.heap.size := fun g hg => (HD.out.2.2.lt g hg).2
    have hmr : w3.heap.size < wr.heap.size := (Array.getElem?_eq_some_iff.1 HR.out).1
    have hb4s : wr.heap.size ≤ w4.heap.size := hb4.size
    obtain ⟨bs5, r5, e5, h5⟩ : ∃ bs r' e', stepF r e0 x = (bs, r', e') := ⟨_, _, _, rfl⟩
    have HF5 := feed_any w1.heap.size w1.heap.size hv _ r x e0 w4 HD4'.out (by omega) (by omega) HAP.out (by omega) (maxL_below HM.out HB4'.out hML)
    rw [h5] at HF5
    have H5 := Lib.hid h5
    clear h5 ho4 ho4' hb4 a1
    go_wp2_with fail
    refine HF5.mono ?_
    rintro e w5 ⟨A5, c5, hv5, rfl, HQ5⟩
    have HB5 := Lib.hid (HB4'.out.trans (HQ5.out.2.2.2.1.mono hws))
    have hnX4 : ¬ decX w1.heap.size hv g4 := fun h => by
      rcases h with h | h
      · omega
      · have := hvl g4 h
        omega
    have HO5 := Lib.hid (own_same HO4.out (fun g hg => HQ5.out.2.2.1.2.2.2.2 g (by cases hg; exact hg4l) (fun h => by cases hg; exact hnX4 h)))
    have HR5 := Lib.hid (show RefAt w5 w3.heap.size (.slice A m c) (e0 : Nat) from (HQ5.out.2.2.1.2.2.2.2 w3.heap.size (by omega) (fun h => by
      rcases h with h | h
      · omega
      · exact HV.out h)).trans HR4.out)
    have HA5 := Lib.hid (argB_kx HQ5.out.2.2.1 HA4.out (fun a m' c' e hp => (HA.out.2 a m' c' e hp).1))
    have a5 := (HQ5.out.2.2.2.1.cell (p := ⟨g1, o1 + k, none⟩) (by show g1 < _; omega)).trans a4
    obtain ⟨m0, m1, mz0, mz1⟩ := refAt_cells HR5.out
    have HRF := Lib.hid (show ∀ W, Below w5.heap.size w5 W → Calls Tryd.prog 15 #[.agg #[.slice A m c, .int .i64 (e0 : Nat)], .slice A0 x.length c0] W fun y w' =>
        ∃ A' n' c' v, y = .returned (.tuple #[.agg #[.slice A' n' c', .int .i64 (e5 : Nat)], v, .int .i64 (e5 : Nat)]) ∧ RowKit.Hid (ArgB w' (.slice A' n' c') r5 ∧ Rows W.heap.size noX bs5 v w' ∧ ((∀ a m k, Value.slice A' n' c' = .slice (some a) m k → 0 < m → W.heap.size ≤ a.block) ∨ Value.slice A' n' c' = .slice A m c)) ∧ RowKit.Hid (Below W.heap.size W w') from fun W hW => by
      have h := refFeed_any A m c (.slice A0 x.length c0) r x e0 W (argB_below HA5.out hW) (argB_below HA0.out (HB5.out.trans (hW.mono HB5.out.size))) (by omega)
      rw [H5.out] at h
      exact h)
    clear HF5 a4
    have hg15 : g1 < w5.heap.size := by
      have := HQ5.out.2.2.2.1.size
      have := HB.out.size
      omega
    have hm15 : w3.heap.size < w5.heap.size := by
      have := HQ5.out.2.2.2.1.size
      omega
    go_upto_region 14 with fail
    go_cut [9, 10, 11] from 43 to 52 (fun b9 b10 b11 wx => ∃ A6 n6 c6 v6 g, b9 = .pointer (some ⟨g, 0, none⟩) ∧ b10 = v6 ∧ b11 = .int .i64 (e5 : Nat) ∧ RowKit.Hid (FeeQ w5 A m c bs5 r5 e5 A6 n6 c6 v6 g wx))
    case first =>
      go_region_with (first | (go_at_call 15; refine (HRF.out _ (((Below.refl _ _).alloc (Nat.le_refl _) _).drew)).mono ?_; rintro y w6 ⟨A6, n6, c6, v6, rfl, HQ6, HB6⟩; have HN0 := Lib.hid (show RefAt ((w5.alloc (.cells #[.slice none 0 0, .int .i64 0] 30)).drew) w5.heap.size (.slice none 0 0) 0 from heap_alloc_new w5 _); obtain ⟨n0, n1, nz0, nz1⟩ := refAt_cells (HN0.out.keep HB6.out)) | (go_at_call 15; refine (HRF.out _ ((Below.refl _ _).drew)).mono ?_; rintro y w6 ⟨A6, n6, c6, v6, rfl, HQ6, HB6⟩))
      all_goals
        first
        | (go_wp2; go_meet; exact ⟨_, _, _, _, _, rfl, rfl, rfl, feeQ_late (Below.refl _ _).drew HQ6.out HB6.out⟩)
        | (go_wp2; go_meet; exact ⟨_, _, _, _, _, rfl, rfl, rfl, feeQ_early HA5.out (((Below.refl _ _).alloc (Nat.le_refl _) _).drew) (by simp) HN0.out HQ6.out HB6.out⟩)
    case rest =>
      obtain ⟨A6, n6, c6, v6, g, rfl, rfl, rfl, HQ6⟩ := hcut
      have hn6 : n6 = r5.length := by
        obtain ⟨A', c', e', _⟩ := HQ6.out.2.2.2.1.shape
        simp only [Value.slice.injEq] at e'
        exact e'.2.1
      subst hn6
      obtain ⟨A7, c7, hv7⟩ := HQ5.out.1.form
      subst hv7
      have hmr5 := (HR5.out.keep HQ6.out.1)
      obtain ⟨m0', m1', mz0', mz1'⟩ := refAt_cells hmr5
      obtain ⟨n0, n1, -, -⟩ := refAt_cells HQ6.out.2.2.1
      clear m0 m1 mz0 mz1
      have hmg : w3.heap.size ≠ g := by have := HQ6.out.2.1; omega
      have hs5c := HQ6.out.1.size
      have hs45 := HQ5.out.2.2.2.1.size
      have hw5s := HB5.out.size
      obtain ⟨w7, hw7⟩ : ∃ w7, w7 = (wc.setCell ⟨w3.heap.size, 0, none⟩ (.slice A6 r5.length c6)).setCell ⟨w3.heap.size, 1, none⟩ (.int .i64 (e5 : Nat)) := ⟨_, rfl⟩
      have hk : Kx (· = w3.heap.size) wc w7 := by
        rw [hw7]
        exact ((kx_refl (· = w3.heap.size) wc).set (X := (· = w3.heap.size)) ⟨w3.heap.size, 0, none⟩ rfl _).set (X := (· = w3.heap.size)) ⟨w3.heap.size, 1, none⟩ rfl _
      have HM7 := Lib.hid (show RefAt w7 w3.heap.size (.slice A6 r5.length c6) (e5 : Nat) by
        rw [hw7]
        exact (hmr5.setR _).setE _)
      have hk3 : Below w3.heap.size wc w7 := hk.below (by omega) (fun g h => by have h' : g = w3.heap.size := h; omega)
      have HB7 := Lib.hid ((HB5.out.trans (HQ6.out.1.mono hw5s)).trans (hk3.mono (by omega)))
      have HV5 := Lib.hid (show (Value.slice A7 r5.length c7).ownBlock ≠ some w3.heap.size from fun h => HV.out (HQ5.out.2.2.2.2 w3.heap.size (by omega) h))
      have HD7 := Lib.hid ((HQ5.out.1.keep HQ6.out.1).kx hk (fun g h h2 => by
        have h2' : g = w3.heap.size := h2
        rcases h with h | h
        · omega
        · exact HV5.out (h2' ▸ h)))
      have HRW7 := Lib.hid (rows_argR (rows_kx HQ6.out.2.2.2.2.1 hk (by omega)))
      have HRV7 := Lib.hid (rows_argR (rows_kxY (((HQ5.out.2.1.below HQ6.out.1))) hk (fun g h => by have h' : g = w3.heap.size := h; omega)))
      have HAA := Lib.hid (show ∀ a m' c', Value.slice A6 r5.length c6 = .slice (some a) m' c' → 0 < m' → ¬ decX w1.heap.size (Value.slice A7 r5.length c7) a.block ∧ a.block ≠ w3.heap.size from fun a m' c' e hp => by
        rcases HQ6.out.2.2.2.2.2 with h3 | h3
        · have h4 := h3 a m' c' e hp
          refine ⟨fun h => ?_, by omega⟩
          rcases h with h | h
          · omega
          · have := (HQ5.out.1.2.2.lt a.block h).2
            omega
        · rw [h3] at e
          have h5 := argB_lt HA4.out a m' c' e hp
          obtain ⟨h6, h7⟩ := HA.out.2 a m' c' e hp
          refine ⟨fun h => ?_, h7⟩
          rcases h with h | h
          · exact h6 (.inl h)
          · exact h6 (.inr (HQ5.out.2.2.2.2 a.block h5 h)))
      have HA7 := Lib.hid (argB_kx hk HQ6.out.2.2.2.1 (fun a m' c' e hp h => (HAA.out a m' c' e hp).2 h))
      obtain ⟨M0, M1, -, -⟩ := refAt_cells HM7.out
      have a7 : w7.cell? ⟨g1, o1 + k, none⟩ = some (.slice A0 x.length c0) := (hk3.cell (p := ⟨g1, o1 + k, none⟩) (by show g1 < _; omega)).trans ((HQ6.out.1.cell (p := ⟨g1, o1 + k, none⟩) (by show g1 < _; omega)).trans a5)
      have HO7 := Lib.hid (own_same (own_keep HO5.out HQ6.out.1) (fun g' hg' => hk.2.2.2.2 g' (by
        have h : g4 = g' := by simpa [Value.ownBlock] using hg'
        omega) (fun h => by
        have h' : g' = w3.heap.size := h
        have h2 : g4 = g' := by simpa [Value.ownBlock] using hg'
        omega)))
      have hst := stepF_rest r e0 x
      have hsq := stepF_small r e0 x
      rw [H5.out] at hst hsq
      dsimp only at hst hsq
      have hsm : smallRows bs5 := fun y hy => by have := hsq y hy; omega
      have MX1 := Lib.hid (fun W (hW : RowKit.Hid (Below w7.heap.size w7 W)) => show Calls Tryd.prog 16 #[.slice A5 bs5.length c5, u10] W fun e w' => e = .returned (.bool true) ∧ RowKit.Hid (Below W.heap.size W w') from
        (sameRows_any _ _ bs5 bs5 W (HRV7.out.below hW.out) (HRW7.out.below hW.out) hsm hsm (by omega) (by omega)).mono fun e w' h => ⟨h.1.trans (ret_bool (by simp)), by
          obtain ⟨q, hq⟩ := h.2
          rw [hq]
          exact below_drewN (Below.refl _ _) q⟩)
      obtain ⟨be, hbe⟩ : ∃ be, ((e5 : Int) != 0) = be := ⟨_, rfl⟩
      have MX2 := Lib.hid (fun W (hW : RowKit.Hid (Below w7.heap.size w7 W)) => show Calls Tryd.prog 17 #[.pointer (some ⟨w1.heap.size, 0, none⟩)] W fun e w' => e = .returned (.bool be) ∧ RowKit.Hid (Below W.heap.size W w') from
        (dead_any W _ _ _ (HD7.out.keep hW.out).2.1).mono fun e w' h => ⟨by rw [h.1, hbe], h.2 ▸ Below.refl _ _⟩)
      have MX3 := Lib.hid (fun W (hW : RowKit.Hid (Below w7.heap.size w7 W)) => show Calls Tryd.prog 18 #[.pointer (some ⟨w1.heap.size, 0, none⟩)] W fun e w' => e = .returned (.int .i64 (r5.length : Nat)) ∧ RowKit.Hid (Below W.heap.size W w') from
        (held_any W _ _ _ _ _ (HD7.out.keep hW.out).2.1).mono fun e w' h => ⟨h.1, h.2 ▸ Below.refl _ _⟩)
      have MX4 := Lib.hid (fun W (hW : RowKit.Hid (Below w7.heap.size w7 W)) => show Calls Tryd.prog 13 #[.slice A0 x.length c0] W fun e w' => ∃ v', e = .returned v' ∧ RowKit.Hid (OwnB W.heap.size (x ++ marks) v' w') ∧ RowKit.Hid (Below W.heap.size W w') from
        (spare_any _ x W (argB_below HA0.out (HB7.out.trans (hW.out.mono HB7.out.size))) (by omega)).mono fun e w' ⟨v', h1, h2, h3⟩ => ⟨v', h1, h2, h3⟩)
      have MX5 := Lib.hid (fun W b v' (hW : RowKit.Hid (Below w7.heap.size w7 W)) (ho : RowKit.Hid (OwnB b (x ++ marks) v' W)) => show Calls Tryd.prog 19 #[.slice (some ⟨g4, 0, none⟩) (x.length + 8) c4, v'] W fun e w' => e = .returned (.bool true) ∧ RowKit.Hid (Below W.heap.size W w') from
        (sameBytes_yes _ _ (x ++ marks) W _ _ (Rd.of_own (own_keep HO7.out hW.out)) (Rd.of_own ho.out.2) (by rw [hln]; omega)).mono fun e w' h => ⟨h.1, by
          obtain ⟨q, hq⟩ := h.2
          rw [hq]
          exact below_drewN (Below.refl _ _) q⟩)
      have HS := Lib.hid (show ∀ W, RowKit.Hid (Below w7.heap.size w7 W) → W.cell? ⟨w3.heap.size, 0, none⟩ = some (.slice A6 r5.length c6) ∧ W.cell? ⟨w3.heap.size, 1, none⟩ = some (.int .i64 (e5 : Nat)) ∧ W.cell? ⟨g1, o1 + k, none⟩ = some (.slice A0 x.length c0) ∧ RowKit.Hid (Below w7.heap.size w7 W) from fun W hW => by
        have h7 := hk.2.2.2.1
        exact ⟨(hW.out.cell (p := ⟨w3.heap.size, 0, none⟩) (by show w3.heap.size < _; omega)).trans M0, (hW.out.cell (p := ⟨w3.heap.size, 1, none⟩) (by show w3.heap.size < _; omega)).trans M1, (hW.out.cell (p := ⟨g1, o1 + k, none⟩) (by show g1 < _; omega)).trans a7, hW⟩)
      have hS0 : RowKit.Hid (Below w7.heap.size w7 w7.drew) := Lib.hid (Below.refl _ _).drew
      clear hsq hst hsm hk hk3 hmr5 M0 M1 a7 a5
      go_upto_region 16 with fail
      rw [← hw7]
      clear hw7 m0' m1' mz0' mz1' n0 n1
      go_cut [88] from 54 to 88 (fun bv wx => bv = .bool false ∧ RowKit.Hid (Below w7.heap.size w7 wx))
      case first =>
        go_region_held3 (fun w' => w'.cell? ⟨w3.heap.size, 0, none⟩ = some (.slice A6 r5.length c6) ∧ w'.cell? ⟨w3.heap.size, 1, none⟩ = some (.int .i64 (e5 : Nat)) ∧ w'.cell? ⟨g1, o1 + k, none⟩ = some (.slice A0 x.length c0) ∧ RowKit.Hid (Below w7.heap.size w7 w')) (first | exact HS.out _ hS0 | exact HS.out _ ‹RowKit.Hid (Below w7.heap.size w7 _)› | exact HS.out _ (keepW ‹RowKit.Hid (Below _ _ _)› ‹RowKit.Hid (Below w7.heap.size w7 _)›)) (first | (go_at_call 16; with_reducible (refine (MX1.out _ ‹_›).mono ?_); rintro e wn ⟨rfl, hbn⟩; have hbk := keepW hbn ‹_›) | (go_at_call 17; with_reducible (refine (MX2.out _ ‹_›).mono ?_); rintro e wn ⟨rfl, hbn⟩; have hbk := keepW hbn ‹_›) | (go_at_call 18; with_reducible (refine (MX3.out _ ‹_›).mono ?_); rintro e wn ⟨rfl, hbn⟩; have hbk := keepW hbn ‹_›) | (go_at_call 13; with_reducible (refine (MX4.out _ ‹_›).mono ?_); rintro e wn ⟨v9, rfl, how, hbn⟩; have hbk := keepW hbn ‹_›) | (go_at_call 19; with_reducible (refine (MX5.out _ _ _ ‹_› ‹_›).mono ?_); rintro e wn ⟨rfl, hbn⟩; have hbk := keepW hbn ‹_›))
        all_goals
          go_wp2
          go_meet
          exact ⟨rfl, ‹_›⟩
      case rest =>
        obtain ⟨rfl, HB8⟩ := hcut
        have HACC2 := Lib.hid (show ∃ acc, feeds [] 0 (ls.take (k + 1)) = (acc, r5, e5) by
          refine ⟨acc ++ bs5, ?_⟩
          rw [List.take_add_one, HX.out]
          show feeds [] 0 (ls.take k ++ [x]) = _
          rw [feeds_snoc, HACC.out]
          dsimp only
          rw [H5.out])
        have hs7 := HB8.out
        go_wp2
        go_roundw
        case rel => exact ⟨k + 1, e5, r5, _, A6, r5.length, c6, by go_num, by omega, Lib.hid (HD7.out.keep HB8.out), Lib.hid (HM7.out.keep HB8.out), Lib.hid ⟨argB_below HA7.out HB8.out, HAA.out⟩, HV5, HACC2, Lib.hid (HB7.out.trans (HB8.out.mono HB7.out.size))⟩
        case measure => (simp [RowKit.intOf] <;> omega)
  · have hke : k = n := by omega
    subst hke
    go_wp2
    go_ret
    exact ⟨rfl, HB.out⟩
end Go.Proofs.YtphnplpgeoleeaaDoor
