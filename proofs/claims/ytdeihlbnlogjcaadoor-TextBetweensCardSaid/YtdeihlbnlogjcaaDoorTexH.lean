/- text's Apply. -/
import Derived.Test.YtdeihlbnlogjcaaDoorTexG
namespace Go.Proofs.YtdeihlbnlogjcaaDoor
open Go.RowKit Go.Lib Go.Shelf
set_option maxRecDepth 100000
set_option linter.unusedVariables false

def etsCells (xs : List ET) : List Value := xs.flatMap etCells
theorem ets_len (xs : List ET) : (etsCells xs).length = xs.length * 5 := by
  induction xs with
  | nil => rfl
  | cons t ts ih =>
    simp only [etsCells, List.flatMap_cons, List.length_append, List.length_cons] at ih ⊢
    rw [ih]
    simp [etCells]
    omega
theorem ets_get : ∀ (xs : List ET) (k : Nat) (h : k < xs.length) (j : Nat), j < 5 → (etsCells xs)[k * 5 + j]? = (etCells xs[k])[j]?
  | t :: ts, 0, _, j, hj => by
    simp only [etsCells, List.flatMap_cons, List.getElem_cons_zero, Nat.zero_mul, Nat.zero_add]
    rw [List.getElem?_append_left (by simpa [etCells] using hj)]
  | t :: ts, k + 1, h, j, hj => by
    have := ets_get ts k (by simpa using h) j hj
    simp only [etsCells, List.flatMap_cons, List.getElem_cons_succ] at this ⊢
    have e : (etCells t).length = 5 := rfl
    rw [List.getElem?_append_right (by omega), e, show (k + 1) * 5 + j - 5 = k * 5 + j by omega]
    exact this
theorem rd_et {w : World} {g o n : Nat} {xs : List ET} (hr : ∀ j, j < n * 5 → w.cell? ⟨g, o + j, none⟩ = (etsCells xs)[j]?) (hn : n = xs.length) {k : Nat} (h : k < n) :
    ∃ x, xs[k]? = some x ∧ w.cell? ⟨g, o + k * 5, none⟩ = some (.int .i64 x.a) ∧ w.cell? ⟨g, o + k * 5 + 1, none⟩ = some (.int .i64 x.b) ∧ w.cell? ⟨g, o + k * 5 + 2, none⟩ = some (.int .i64 x.c) ∧ w.cell? ⟨g, o + k * 5 + 3, none⟩ = some (.int .i64 x.d) ∧ w.cell? ⟨g, o + k * 5 + 4, none⟩ = some (.string x.t) := by
  subst hn
  have key : ∀ j, j < 5 → w.cell? ⟨g, o + k * 5 + j, none⟩ = (etCells xs[k])[j]? := by
    intro j hj
    rw [Nat.add_assoc, hr _ (by omega)]
    exact ets_get xs k h j hj
  exact ⟨xs[k], List.getElem?_eq_getElem h, key 0 (by omega), key 1 (by omega), key 2 (by omega), key 3 (by omega), key 4 (by omega)⟩
structure EdOk (x : ET) : Prop where
  wf : EWf x
  size : x.t.size ≤ 1099511627776
def apR : ByteArray → List ET → ByteArray × Int
  | s, [] => (s, 0)
  | s, x :: xs => if apE s x = 0 then apR (apT s x) xs else (⟨#[]⟩, apE s x)
def apAS (s : ByteArray) (xs : List ET) : ByteArray := if validD s.data.toList = true then (apR s xs).1 else ⟨#[]⟩
def apAE (s : ByteArray) (xs : List ET) : Int := if validD s.data.toList = true then (apR s xs).2 else 40
theorem apT_size (s : ByteArray) (x : ET) (h : apE s x = 0) : (apT s x).size ≤ 32768 := by
  have hL : s.data.toList.length = s.size := by simp
  unfold apE at h
  split at h
  · split at h
    · rename_i h1
      split at h
      · rename_i h2
        split at h
        · cases h
        · rename_i h3
          split at h
          · cases h
          · rename_i h4
            rcases tOff_cases s.data.toList x.a x.b with q | ⟨n, e1, l1, -⟩
            · exact absurd h1 q
            · rcases tOff_cases s.data.toList x.c x.d with q | ⟨m, e2, l2, -⟩
              · exact absurd h2 q
              · rw [e1, e2] at h3 h4
                unfold apT
                rw [e1, e2]
                simp only [ByteArray.size_append, ByteArray.size_extract, Int.toNat_natCast]
                omega
      · exact absurd h (by assumption)
    · exact absurd h (by assumption)
  · cases h
theorem BRe {wr w3 : World} {o : Obj} (hb : Below (wr.alloc o).heap.size (wr.alloc o) w3) : Below wr.heap.size wr w3 :=
  ((Below.refl _ _).alloc (Nat.le_refl _) _).trans (hb.mono (by simp))
set_option maxHeartbeats 1000000 in
theorem apply_any (v : Value) (xs : List ET) (s : ByteArray) (w : World) (h : Rd w w.heap.size 5 v xs.length (etsCells xs)) (hs : s.size ≤ 1099511627) (hx : ∀ x ∈ xs, EdOk x) (hl : xs.length ≤ 1099511627776) (hT : Tabs w) (hM : MaxL w) :
    Calls Tryd.prog 48 #[.string s, v] w fun e w' => e = .returned (.tuple #[.string (apAS s xs), .int .i64 (apAE s xs)]) ∧ Below w.heap.size w w' := by
  obtain ⟨-, A, c, rfl, hc, hr⟩ := h
  obtain ⟨n, hn⟩ : ∃ n, n = xs.length := ⟨_, rfl⟩
  rw [← hn] at hr hc hl ⊢
  have HN := Lib.hid hn
  have HR := Lib.hid hr
  have HX := Lib.hid hx
  have hml := Lib.hid (maxL_lt hM)
  clear hn hr hx
  go_enter Tryd.func48, Tryd.ntmps48
  go_wp2_with fail
  refine (isText_any s w (by omega) hT).mono ?_
  rintro e w1 ⟨rfl, hb1⟩
  have HB1 := Lib.hid hb1
  clear hb1
  cases hv : validD s.data.toList
  · have HF := Lib.hid (show apAS s xs = ⟨#[]⟩ ∧ apAE s xs = 40 by simp [apAS, apAE, hv])
    clear hv
    go_wp2
    go_ret2
    exact ⟨by rw [HF.out.1, HF.out.2]; rfl, HB1.out⟩
  · have HF := Lib.hid (show apAS s xs = (apR s xs).1 ∧ apAE s xs = (apR s xs).2 by simp [apAS, apAE, hv])
    clear hv
    go_wp2
    go_loopw [0, 15] (fun a i wr => ∃ (k : Nat) (S : ByteArray), k ≤ n ∧ a = .string S ∧ i = .int .i64 k ∧ S.size ≤ 1099511627 ∧ RowKit.Hid (apR s xs = apR S (xs.drop k)) ∧ RowKit.Hid (Below w.heap.size w wr)) (fun _ i _ => n - (RowKit.intOf i).toNat)
    case atStart => exact ⟨0, s, by omega, rfl, rfl, hs, rfl, HB1.out⟩
    case round =>
      obtain ⟨k, S, hk, rfl, rfl, hS, HA, HB⟩ := hrel
      have hsz := HB.out.size
      by_cases hkn : k < n
      · have hki : (k : Int) < n := by omega
        obtain ⟨g, o, rfl, hg, hr⟩ := HR.out (by omega)
        obtain ⟨x, hxk, d0, d1, d2, d3, d4⟩ := rd_et hr HN.out hkn
        have c0 := (HB.out.cell (p := ⟨g, o + k * 5, none⟩) hg).trans d0
        have c1 := (HB.out.cell (p := ⟨g, o + k * 5 + 1, none⟩) hg).trans d1
        have c2 := (HB.out.cell (p := ⟨g, o + k * 5 + 2, none⟩) hg).trans d2
        have c3 := (HB.out.cell (p := ⟨g, o + k * 5 + 3, none⟩) hg).trans d3
        have c4 := (HB.out.cell (p := ⟨g, o + k * 5 + 4, none⟩) hg).trans d4
        have hok := HX.out x (List.mem_of_getElem? hxk)
        have HDR := Lib.hid (show xs.drop k = x :: xs.drop (k + 1) from (List.drop_eq_getElem_cons (by have := HN.out; omega)).trans (by
          congr 1
          have := (List.getElem?_eq_some_iff.1 hxk).2
          exact this))
        have HAP := Lib.hid (apply1_any S x (wr.alloc (.cells #[.int .i64 x.a, .int .i64 x.b, .int .i64 x.c, .int .i64 x.d, .string x.t] 60)) hS hok.size hok.wf (Utf8Tabs_below hT (HB.out.alloc hsz _)) (maxL_below hM (HB.out.alloc hsz _) hml.out))
        have HSZ := Lib.hid (apT_size S x)
        clear hr d0 d1 d2 d3 d4 hxk hok
        obtain ⟨E, hE⟩ : ∃ E, E = apE S x := ⟨_, rfl⟩
        obtain ⟨R, hR⟩ : ∃ R, R = apS S x := ⟨_, rfl⟩
        rw [← hE, ← hR] at HAP
        rw [← hE] at HSZ
        have HE := Lib.hid (And.intro hE hR)
        clear hE hR
        obtain ⟨xa, xb, xc, xd, xt⟩ := x
        unfold etV at HAP
        simp only at c0 c1 c2 c3 c4 HAP
        by_cases hE0 : E = 0
        · have hRs : R.size ≤ 1099511627 := by
            have h := HE.out.2
            unfold apS at h
            rw [if_pos (HE.out.1 ▸ hE0)] at h
            have := HSZ.out hE0
            rw [h]
            omega
          have HA2 := Lib.hid (show apR s xs = apR R (xs.drop (k + 1)) by
            have h := HE.out.2
            unfold apS at h
            rw [if_pos (HE.out.1 ▸ hE0)] at h
            rw [HA.out, HDR.out, apR, if_pos (HE.out.1 ▸ hE0), h])
          go_wp2_with fail
          refine HAP.out.mono ?_
          rintro e w2 ⟨rfl, hb2⟩
          have HB2 := Lib.hid (HB.out.trans ((BRe hb2).mono hsz))
          clear hb2
          go_wp2
          go_roundw
          case rel => exact ⟨k + 1, R, by omega, rfl, by go_num, hRs, HA2.out, HB2.out⟩
          case measure => simp [RowKit.intOf]; omega
        · have HF2 := Lib.hid (show apR s xs = (⟨#[]⟩, E) by
            rw [HA.out, HDR.out, apR, if_neg (HE.out.1 ▸ hE0), HE.out.1])
          go_wp2_with fail
          refine HAP.out.mono ?_
          rintro e w2 ⟨rfl, hb2⟩
          have HB2 := Lib.hid (HB.out.trans ((BRe hb2).mono hsz))
          clear hb2
          go_wp2
          go_ret2
          exact ⟨by rw [HF.out.1, HF.out.2, HF2.out]; rfl, HB2.out⟩
      · have hki : ¬ (k : Int) < n := by omega
        have HF2 := Lib.hid (show apR s xs = (S, 0) by
          rw [HA.out, List.drop_eq_nil_of_le (by have := HN.out; omega)]
          rfl)
        go_wp2
        go_ret2
        exact ⟨by rw [HF.out.1, HF.out.2, HF2.out]; rfl, HB.out⟩
end Go.Proofs.YtdeihlbnlogjcaaDoor
