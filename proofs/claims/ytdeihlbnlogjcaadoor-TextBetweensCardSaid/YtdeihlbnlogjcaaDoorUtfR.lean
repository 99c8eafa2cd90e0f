/- The contracts of the reference's isRune, bytes, Text. -/
import Derived.Test.YtdeihlbnlogjcaaDoorUtfJ
namespace Go.Proofs.YtdeihlbnlogjcaaDoor
open Go.RowKit Go.Lib Go.Shelf
set_option maxRecDepth 100000
set_option linter.unusedVariables false

theorem risRune_any (r : Int) (w : World) : Calls Tryd.prog 59 #[.int .i64 r] w fun e w' => e = .returned (.bool (Ut.isR r)) ∧ w = w' := by
  by_cases h0 : 0 ≤ r
  · by_cases h1 : r ≤ 1114111
    · by_cases h2 : 55296 ≤ r
      · by_cases h3 : r ≤ 57343
        · have e : Ut.isR r = false := by simp only [Ut.isR, decide_eq_false_iff_not]; omega
          go_enter Tryd.func59, Tryd.ntmps59
          go_wp2
          go_ret
          exact ⟨ret_bool e.symm, rfl⟩
        · have e : Ut.isR r = true := by simp only [Ut.isR, decide_eq_true_eq]; omega
          go_enter Tryd.func59, Tryd.ntmps59
          go_wp2
          go_ret
          exact ⟨rfl, rfl⟩
      · have e : Ut.isR r = true := by simp only [Ut.isR, decide_eq_true_eq]; omega
        go_enter Tryd.func59, Tryd.ntmps59
        go_wp2
        go_ret
        exact ⟨rfl, rfl⟩
    · have e : Ut.isR r = false := by simp only [Ut.isR, decide_eq_false_iff_not]; omega
      go_enter Tryd.func59, Tryd.ntmps59
      go_wp2
      go_ret
      exact ⟨rfl, rfl⟩
  · have e : Ut.isR r = false := by simp only [Ut.isR, decide_eq_false_iff_not]; omega
    go_enter Tryd.func59, Tryd.ntmps59
    go_wp2
    go_ret
    exact ⟨rfl, rfl⟩
theorem enc_cells (r : Int) (h : Ut.isR r = true) : bytesV (encodeRune r) = if r < 128 then [.int .u8 r] else if r < 2048 then [.int .u8 (192 + r / 64), .int .u8 (128 + r % 64)] else if r < 65536 then [.int .u8 (224 + r / 4096), .int .u8 (128 + r / 64 % 64), .int .u8 (128 + r % 64)] else [.int .u8 (240 + r / 262144), .int .u8 (128 + r / 4096 % 64), .int .u8 (128 + r / 64 % 64), .int .u8 (128 + r % 64)] := by
  rw [← rune_cells r h]
  unfold runeCells
  rcases Ut.enc_cases r h with ⟨h0, h1, e⟩ | ⟨h0, h1, e⟩ | ⟨h0, h1, h2, e⟩ | ⟨h0, h1, e⟩
  · rw [e, if_pos (by omega)]
    rfl
  · rw [e, if_neg (by omega), if_pos (by omega)]
    rfl
  · rw [e, if_neg (by omega), if_neg (by omega), if_pos (by omega)]
    rfl
  · rw [e, if_neg (by omega), if_neg (by omega), if_neg (by omega)]
    rfl
def RbPost (r : Int) (w : World) (e : Ending) (w' : World) : Prop :=
  ∃ n, n = (encodeRune r).length ∧ e = .returned (.slice (some ⟨w.heap.size, 0, none⟩) n n) ∧ w' = w.alloc (.cells (bytesV (encodeRune r)).toArray 5)
theorem rbytes_any (r : Int) (h : Ut.isR r = true) (w : World) : Calls Tryd.prog 60 #[.int .i64 r] w (RbPost r w) := by
  have hr : 0 ≤ r ∧ r ≤ 1114111 := by simp only [Ut.isR, decide_eq_true_eq] at h; omega
  obtain ⟨h0, h9⟩ := hr
  have HC := Lib.hid (enc_cells r h)
  have HL := Lib.hid (show (bytesV (encodeRune r)).length = (encodeRune r).length from bytesV_len _)
  clear h
  by_cases h1 : r < 128
  · go_enter Tryd.func60, Tryd.ntmps60
    go_wp2
    go_ret
    have e := HC.out
    rw [if_pos h1] at e
    exact ⟨1, by rw [← HL.out, e]; rfl, rfl, by rw [e]⟩
  · by_cases h2 : r < 2048
    · have m1 : r / 64 < 32 := by omega
      have m2 : 0 ≤ r / 64 := by omega
      go_enter Tryd.func60, Tryd.ntmps60
      go_wp2
      go_ret
      have e := HC.out
      rw [if_neg (by omega), if_pos h2] at e
      exact ⟨2, by rw [← HL.out, e]; rfl, rfl, by rw [e]⟩
    · by_cases h3 : r < 65536
      · have m1 : r / 4096 < 16 := by omega
        have m2 : 0 ≤ r / 4096 := by omega
        go_enter Tryd.func60, Tryd.ntmps60
        go_wp2
        go_ret
        have e := HC.out
        rw [if_neg (by omega), if_neg (by omega), if_pos h3] at e
        exact ⟨3, by rw [← HL.out, e]; rfl, rfl, by rw [e]⟩
      · have m1 : r / 262144 < 5 := by omega
        have m2 : 0 ≤ r / 262144 := by omega
        go_enter Tryd.func60, Tryd.ntmps60
        go_wp2
        go_ret
        have e := HC.out
        rw [if_neg (by omega), if_neg (by omega), if_neg (by omega)] at e
        exact ⟨4, by rw [← HL.out, e]; rfl, rfl, by rw [e]⟩
theorem rb_cells (w : World) (l : List UInt8) : ∀ (j : Nat) (u : Value), (bytesV l)[j]? = some u → (w.alloc (.cells (bytesV l).toArray 5)).cell? ((⟨w.heap.size, 0, none⟩ : Addr).add j) = some u := by
  intro j u hu
  rw [add_off, Nat.zero_add, World.cell?_alloc_mark]
  simpa using hu
theorem bytes_next {w W1 w3 : World} {l news : List UInt8} {v v' : Value} {o : Obj} {m : Nat} (hm : m = news.length) (hb : Below w.heap.size w W1) (ho : W1.ownsRow w.heap.size 5 1 v l.length (bytesV l))
    (hown : w3.ownsRow w.heap.size 5 1 v' (l.length + m) (bytesV l ++ bytesV news)) (hg : (W1.alloc o).grownBy w3 v.ownBlock) :
    w3.ownsRow w.heap.size 5 1 v' (l ++ news).length (bytesV (l ++ news)) ∧ Below w.heap.size w w3 := by
  refine ⟨?_, (hb.alloc hb.size o).grown hg (by have := hb.size; simp; omega) (fun j e => (ho.lt j e).1)⟩
  rw [← bytesV_app, List.length_append, ← hm]
  exact hown
set_option maxHeartbeats 2000000 in
theorem rtext_any (v : Value) (rs : List Int) (w : World) (B : Nat) (hB : B ≤ w.heap.size) (h : Rd w B 1 v rs.length (intsV rs)) (hl : rs.length ≤ 4294967296) :
    Calls Tryd.prog 31 #[v] w (TextPost rs w) := by
  obtain ⟨i0, hi, hz0, hz1, hz2⟩ := info_parts infoByte
  obtain ⟨-, A, c, rfl, hc, hr0⟩ := h
  obtain ⟨n, hn⟩ : ∃ n, n = rs.length := ⟨_, rfl⟩
  rw [← hn] at hr0 hc hl ⊢
  have HN := Lib.hid hn
  have HR := Lib.hid hr0
  have HMA := Lib.hid (World.ownsRow_lit (e := 5) (size := 1) w #[] 0 (Nat.le_refl _) (by unfold maxLen; omega) rfl)
  clear hn hr0
  go_enter Tryd.func31, Tryd.ntmps31
  go_wp2
  go_loopw [4, 5] (fun v i wr => ∃ k : Nat, k ≤ n ∧ i = .int .i64 k ∧ RowKit.Hid (∀ r ∈ rs.take k, Ut.isR r = true) ∧ RowKit.Hid (wr.ownsRow w.heap.size 5 1 v (Ut.encs (rs.take k)).length (bytesV (Ut.encs (rs.take k)))) ∧ RowKit.Hid (Below w.heap.size w wr)) (fun _ i _ => n - (RowKit.intOf i).toNat)
  case atStart => exact ⟨0, by omega, rfl, fun _ h => by simp at h, HMA.out, (Below.refl _ _).alloc (Nat.le_refl _) _⟩
  case round =>
    obtain ⟨k, hk, rfl, HIS, HO, HB⟩ := hrel
    have hsz : w.heap.size ≤ wr.heap.size := HB.out.size
    have hcnt := encs_count _ HIS.out
    rw [List.length_take] at hcnt
    by_cases hlt : k < n
    · obtain ⟨g, o, rfl, hg, hr⟩ := HR.out (by omega)
      obtain ⟨r, hrk, d0⟩ := rd_int hr HN.out hlt
      have c0 := (HB.out.cell (p := ⟨g, o + k, none⟩) (by show g < _; omega)).trans d0
      have hkn : (k : Int) < n := by omega
      have HRK := Lib.hid hrk
      have hmem : r ∈ rs := List.mem_of_getElem? hrk
      have HI := Lib.hid (fun W => risRune_any r W)
      clear hr d0 hrk
      cases his : Ut.isR r
      · rw [his] at HI
        have HALL := Lib.hid (show ¬ rs.all Ut.isR = true by
          intro h
          rw [List.all_eq_true] at h
          have := h r hmem
          rw [his] at this
          cases this)
        clear hmem his
        go_wp2_with (first | (go_at_call 59; with_reducible (refine (HI.out _).mono ?_); rintro e w1 ⟨rfl, rfl⟩))
        go_ret2
        exact ⟨by rw [if_neg HALL.out]; rfl, HB.out⟩
      · rw [his] at HI
        have hrb : 0 ≤ r ∧ r ≤ 1114111 := by simp only [Ut.isR, decide_eq_true_eq] at his; omega
        obtain ⟨hr1, hr2⟩ := hrb
        have HT := Lib.hid (encs_take HRK.out)
        have hel := (Ut.enc_len r his).2.1
        obtain ⟨m, hm⟩ : ∃ m, m = (encodeRune r).length := ⟨_, rfl⟩
        rw [← hm] at hel
        have HRB := Lib.hid ((rbytes_any r his wr).mono fun e w' h => (show e = .returned (.slice (some ⟨wr.heap.size, 0, none⟩) m m) ∧ wr.alloc (.cells (bytesV (encodeRune r)).toArray 5) = w' from by
          obtain ⟨n, hn, h1, h2⟩ := h
          rw [hm, ← hn]
          exact ⟨h1, h2.symm⟩))
        have HM := Lib.hid hm
        have HIS2 := Lib.hid (show ∀ x ∈ rs.take (k + 1), Ut.isR x = true by
          intro x hx
          rw [List.take_add_one, HRK.out] at hx
          rcases List.mem_append.1 hx with hx | hx
          · exact HIS.out x hx
          · obtain rfl : x = r := by simpa using hx
            exact his)
        clear hmem his hm
        go_wp2_with (first | (go_at_call 59; with_reducible (refine (HI.out _).mono ?_); rintro e w1 ⟨rfl, rfl⟩) | (go_at_call 60; with_reducible (refine HRB.out.mono ?_); rintro e w1 ⟨rfl, rfl⟩) | (at_builtin; refine wpList_append_own _ rfl _ _ 22 rfl w.heap.size 5 i0 _ 1 1 Tryd.underlying22 hi hz0 hz1 hz2 rfl (by decide) _ _ _ rfl (HO.out.alloc _) ⟨wr.heap.size, 0, none⟩ m m (bytesV (encodeRune r)) rfl (by rw [bytesV_len, HM.out, Nat.mul_one]) (rb_cells wr _) (bytesV_plain _) (by unfold maxLen; omega) (by omega) (by simp; omega) ?_; intro v3 w3 hown' hgrow hnil; have HST := Lib.hid (bytes_next HM.out HB.out HO.out hown' hgrow); clear hown' hgrow hnil))
        go_roundw
        case rel => exact ⟨k + 1, by omega, by go_num, HIS2, by rw [HT.out]; exact HST.out.1, HST.out.2⟩
        case measure => simp [RowKit.intOf]; omega
    · have e : k = n := by omega
      subst e
      have hall : ∀ r ∈ rs, Ut.isR r = true := by
        have h := HIS.out
        rwa [HN.out, List.take_length] at h
      have ho := HO.out
      rw [HN.out, List.take_length] at ho
      have hcv := conv_rd (P := Tryd.prog) (Rd.of_own ho) 22 9 5 Tryd.underlying22 Tryd.underlying5 Tryd.underlying9
      have HALL := Lib.hid (List.all_eq_true.2 hall)
      clear hall ho
      go_wp2
      go_ret2
      exact ⟨by rw [if_pos HALL.out]; rfl, HB.out⟩
end Go.Proofs.YtdeihlbnlogjcaaDoor
