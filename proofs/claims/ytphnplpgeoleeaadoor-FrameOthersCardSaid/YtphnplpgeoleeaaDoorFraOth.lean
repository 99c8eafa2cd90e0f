/- FrameOthers' walk. -/
import Derived.Test.YtphnplpgeoleeaaDoorFraGr
namespace Go.Proofs.YtphnplpgeoleeaaDoor
open Go.RowKit Go.Lib Go.Shelf
set_option maxRecDepth 100000
set_option linter.unusedVariables false
set_option linter.unusedSectionVars false

/-- a name's bytes, as the statement asks. -/
def okN (c : UInt8) : Bool := decide ((97 ≤ c.toNat ∧ c.toNat ≤ 122) ∨ (65 ≤ c.toNat ∧ c.toNat ≤ 90) ∨ c.toNat = 45)
theorem okN_all : ∀ n : Fin 256, decide ((97 ≤ n.val ∧ n.val ≤ 122) ∨ (65 ≤ n.val ∧ n.val ≤ 90) ∨ n.val = 45) = true → (decide (n.val = 45) || (decide (97 ≤ n.val ||| 32) && decide (n.val ||| 32 ≤ 122))) = true := by decide +kernel
theorem okN_name {c : UInt8} (h : okN c = true) : nameC c = true := by
  have h2 := okN_all ⟨c.toNat, c.toNat_lt⟩ h
  unfold nameC
  have e : decide (c = 45) = decide (c.toNat = 45) := by
    by_cases hc : c = 45
    · rw [decide_eq_true hc, hc]
      rfl
    · rw [decide_eq_false hc]
      symm
      exact decide_eq_false (fun h => hc (UInt8.toNat_inj.1 h))
  rw [e]
  exact h2
theorem okN_ne {c : UInt8} (h : okN c = true) : c ≠ 58 ∧ c ≠ 13 := by
  constructor
  · rintro rfl
    exact absurd h (by decide)
  · rintro rfl
    exact absurd h (by decide)
theorem fold_len : ∀ (s t : List UInt8), Lib.equalFold s t = true → s.length = t.length
  | [], [], _ => rfl
  | [], _ :: _, h => by simp [Lib.equalFold] at h
  | _ :: _, [], h => by simp [Lib.equalFold] at h
  | x :: s, y :: t, h => by
    simp only [Lib.equalFold, Bool.and_eq_true] at h
    simp [fold_len s t h.2]
theorem fold_c_all : ∀ n : Fin 256, decide (n.val = 99 ∨ (65 ≤ n.val ∧ n.val ≤ 90 ∧ 99 = n.val + 32) ∨ (65 ≤ 99 ∧ 99 ≤ 90 ∧ n.val = 99 + 32)) = true → n.val = 99 ∨ n.val = 67 := by decide +kernel
theorem fold_c {s : List UInt8} (h : Lib.equalFold s clName = true) : s.length = 14 ∧ ∃ c, s[0]? = some c ∧ (c.toNat = 99 ∨ c.toNat = 67) := by
  refine ⟨fold_len _ _ h, ?_⟩
  cases s with
  | nil => simp [Lib.equalFold, clName] at h
  | cons x s =>
    simp only [Lib.equalFold, clName, Bool.and_eq_true] at h
    exact ⟨x, rfl, fold_c_all ⟨x.toNat, x.toNat_lt⟩ h.1⟩
theorem fieldF_other {nm vl : List UInt8} (h0 : nm ≠ []) (h1 : nm.all okN = true) (h2 : vl.all noLB = true) (h3 : ¬ (nm.length = 14 ∧ ∃ c, nm[0]? = some c ∧ (c.toNat = 99 ∨ c.toNat = 67))) : fieldF (nm ++ [58] ++ vl) = some none := by
  have hk := List.all_eq_true.1 h1
  have hc : Lib.cut (nm ++ [58] ++ vl) [58] = (nm, vl, true) := cut_at (c := 58) (sub' := []) (fun c hc => (okN_ne (hk c hc)).1)
  have hn : nameF nm = true := by
    unfold nameF
    rw [decide_eq_true h0]
    simp only [Bool.true_and, List.all_eq_true]
    exact fun c hc => okN_name (hk c hc)
  have hf : Lib.equalFold nm clName = false := by
    cases hh : Lib.equalFold nm clName
    · rfl
    · exact absurd (fold_c hh) h3
  unfold fieldF
  rw [hc]
  dsimp only
  rw [if_pos ⟨rfl, hn, h2⟩, hf, if_neg (by simp)]
theorem other_ok {nm vl : List UInt8} (h1 : nm.all okN = true) (h2 : vl.all noLB = true) : nm ++ [58] ++ vl ≠ [] ∧ ∀ c ∈ nm ++ [58] ++ vl, c ≠ 13 := by
  refine ⟨by simp, fun c hc => ?_⟩
  rcases List.mem_append.1 hc with h | h
  · rcases List.mem_append.1 h with h | h
    · exact (okN_ne (List.all_eq_true.1 h1 c h)).2
    · simp at h
      subst h
      decide
  · have h3 := List.all_eq_true.1 h2 c h
    unfold noLB at h3
    rw [Bool.and_eq_true, decide_eq_true_eq] at h3
    exact h3.1
/-- the lines, in either order. -/
def othLines (behind : Bool) (o l : List UInt8) : List (List UInt8) := if behind = true then [l, o] else [o, l]
theorem feedL_other {nm vl body : List UInt8} (behind : Bool) (h0 : nm ≠ []) (h1 : nm.all okN = true) (h2 : vl.all noLB = true) (h3 : ¬ (nm.length = 14 ∧ ∃ c, nm[0]? = some c ∧ (c.toNat = 99 ∨ c.toNat = 67))) (hl : nm.length + vl.length ≤ 900) (hb : body.length ≤ 65536) :
    feedL (headOf (othLines behind (nm ++ [58] ++ vl) (sizeLine [] body.length)) ++ body) = ([body], [], 0) := by
  have ho := other_ok h1 h2
  have hs := sizeLine_ok [] body.length (.inl rfl)
  have hf := fieldF_other h0 h1 h2 h3
  have hz := fieldF_size [] body.length (.inl rfl) (by omega)
  have hd := (decDigits_len 6 body.length (by decide) (by have : 10 ^ 6 = 1000000 := rfl; omega)).1
  have hsl : (sizeLine [] body.length).length ≤ 21 := by
    simp only [sizeLine, List.length_append]
    have h1 : clBig.length = 14 := rfl
    simp
    omega
  have hol : (nm ++ [58] ++ vl).length ≤ 901 := by simp only [List.length_append]; simp; omega
  have hnl : nl.length = 2 := rfl
  have h := feedL_msg (ls := othLines behind (nm ++ [58] ++ vl) (sizeLine [] body.length)) (l := body) [] (fun x hx => by
    unfold othLines at hx
    split at hx
    all_goals
      simp only [List.mem_cons, List.not_mem_nil, or_false] at hx
      rcases hx with rfl | rfl
    · exact hs
    · exact ho
    · exact ho
    · exact hs) (by unfold othLines; split <;> simp) (by
    unfold othLines
    split
    all_goals
      simp only [headOf, List.length_append] at *
      omega) (by
    unfold othLines
    split
    all_goals
      simp only [bodyF, hf, hz]) hb
  rw [List.append_nil, feedL_nil] at h
  exact h
/-- '[]byte(s)', with letters. -/
theorem conv_letters (W : World) (X : ByteArray) : ∃ n C W2, (convert 9 27 (.string X)).run Tryd.prog W = .ok (.slice (some ⟨W.heap.size, 0, none⟩) n C) W2 ∧ ArgB W2 (.slice (some ⟨W.heap.size, 0, none⟩) n C) X.data.toList ∧ Below W.heap.size W W2 := by
  obtain ⟨capF, objF, h1, h2, h3⟩ := conv_bytes (P := Tryd.prog) X 9 27 5 Tryd.underlying9 Tryd.underlying27 Tryd.underlying5
  have hl : X.data.toList.length = X.size := by simp
  refine ⟨_, _, _, h1 W, ⟨⟨by rw [bytesV_len, Nat.mul_one], _, _, by rw [hl], by rw [hl]; exact h3 W, fun _ => ⟨W.heap.size, 0, rfl, by show W.heap.size < (W.heap.push _).size; simp, fun j hj => ?_⟩⟩, .inr ⟨_, _, by rw [hl]⟩⟩, ((Below.refl W.heap.size W).drew).alloc (by exact Nat.le_refl _) _⟩
  have hj2 : j < (bytesV X.data.toList).length := by rw [bytesV_len]; omega
  have h := h2 W W.drew j _ rfl (List.getElem?_eq_getElem hj2)
  rw [add_off] at h
  rw [h, List.getElem?_eq_getElem hj2]
theorem two_argR (W : World) (u v : Value) (x y : List UInt8) (h1 : ArgB W u x) (h2 : ArgB W v y) : ArgR (W.alloc (.cells #[u, v] 27)) (.slice (some ⟨W.heap.size, 0, none⟩) 2 2) [x, y] := by
  refine ⟨[u, v], ⟨rfl, _, _, rfl, Nat.le_refl _, fun _ => ⟨_, _, rfl, by simp, fun j hj => ?_⟩⟩, .inr ⟨_, _, rfl⟩, fun i z hi => ?_⟩
  · have h := World.cell?_alloc_mark W #[u, v] 27 (0, 0) j
    rw [Nat.zero_add]
    rw [h]
    simp
  · match i with
    | 0 =>
      simp at hi
      subst hi
      exact ⟨u, rfl, argB_below h1 ((Below.refl _ _).alloc (Nat.le_refl _) _)⟩
    | 1 =>
      simp at hi
      subst hi
      exact ⟨v, rfl, argB_below h2 ((Below.refl _ _).alloc (Nat.le_refl _) _)⟩
    | i + 2 => simp at hi
theorem str_get {s : ByteArray} {k : Nat} (h : k < s.size) : ∃ c : UInt8, s[k] = c ∧ s.data.toList[k]? = some c := ⟨_, rfl, str_at s k h⟩
theorem oth_bytes (s1 s2 : ByteArray) (n : Nat) (b : Bool) : ((if b = true then (((⟨#[67, 111, 110, 116, 101, 110, 116, 45, 76, 101, 110, 103, 116, 104, 58]⟩ : ByteArray) ++ bs (Lib.decDigits n) ++ (⟨#[13, 10]⟩ : ByteArray)) ++ (s1 ++ (⟨#[58]⟩ : ByteArray) ++ s2 ++ (⟨#[13, 10]⟩ : ByteArray))) else ((s1 ++ (⟨#[58]⟩ : ByteArray) ++ s2 ++ (⟨#[13, 10]⟩ : ByteArray)) ++ ((⟨#[67, 111, 110, 116, 101, 110, 116, 45, 76, 101, 110, 103, 116, 104, 58]⟩ : ByteArray) ++ bs (Lib.decDigits n) ++ (⟨#[13, 10]⟩ : ByteArray)))) ++ (⟨#[13, 10]⟩ : ByteArray)).data.toList = headOf (othLines b (s1.data.toList ++ [58] ++ s2.data.toList) (sizeLine [] n)) := by
  cases b
  all_goals
    simp [othLines, headOf, sizeLine, clBig, nl, bs]
set_option maxHeartbeats 4000000 in
theorem frameOthers_walk (v0 : Value) (l0 : List UInt8) (s1 s2 : ByteArray) (bh : Bool) (w : World) (h0' : ArgBS w v0 l0) (hs1 : s1.size ≤ 140737488351232) (hs2 : s2.size ≤ 140737488351232) (hT : Pow w) (hM : MaxL w) : Calls Tryd.prog 8 #[v0, .string s1, .string s2, .bool bh] w (TruePost w) := by
  have HAL := Lib.hid (alive_any w hT hM)
  have HM := Lib.hid hM
  have hML := maxL_lt hM
  obtain ⟨h0, hs0⟩ := h0'
  have H0 := Lib.hid h0
  obtain ⟨A0, c0, rfl, hc0⟩ := h0.shape
  have HL1 := Lib.hid (show s1.data.toList.length = s1.size by simp)
  have HL2 := Lib.hid (show s2.data.toList.length = s2.size by simp)
  clear h0 hT hM
  go_enter Tryd.func8, Tryd.ntmps8
  go_wp2_with fail
  refine HAL.out.mono ?_
  rintro e w1 ⟨rfl, hb1⟩
  have HB1 := Lib.hid hb1
  clear hb1
  by_cases hbig : (900 : Int) < (s1.size : Int) + s2.size
  · have hg := decide_eq_true hbig
    go_wp2
    go_ret
    exact ⟨rfl, HB1.out⟩
  have hg := decide_eq_false hbig
  cases hem : s1.toList.isEmpty with
  | true =>
    go_wp2
    go_ret
    exact ⟨rfl, HB1.out⟩
  | false =>
  by_cases hbig2 : (65536 : Int) < (l0.length : Int)
  · have hg2 := decide_eq_true hbig2
    go_wp2
    go_ret
    exact ⟨rfl, HB1.out⟩
  have hg2 := decide_eq_false hbig2
  have hsz : s1.size + s2.size ≤ 900 := by omega
  have hlz : l0.length ≤ 65536 := by omega
  have HEM := Lib.hid (show s1.data.toList ≠ [] by
    have h := hem
    rw [Lib.toList_data] at h
    simpa using h)
  clear hbig hbig2
  go_wp2
  go_loopw [9] (fun i wr => ∃ k : Nat, k ≤ s1.size ∧ i = .int .i64 k ∧ RowKit.Hid ((s1.data.toList.take k).all okN = true) ∧ wr = w1) (fun i _ => s1.size - (RowKit.intOf i).toNat)
  case atStart => exact ⟨0, by omega, rfl, by simp [RowKit.Hid], rfl⟩
  case round =>
  obtain ⟨k, hk, rfl, HA, rfl⟩ := hrel
  by_cases hks : k < s1.size
  · have hki : (k : Int) < s1.size := by omega
    obtain ⟨c, hc⟩ : ∃ c, c = s1[k] := ⟨_, rfl⟩
    have HC := Lib.hid (show s1.data.toList[k]? = some c by rw [hc]; exact str_at s1 k hks)
    by_cases h97 : 97 ≤ s1[k].toNat
    · by_cases h122 : s1[k].toNat ≤ 122
      ·
        have HA2 := Lib.hid (show (s1.data.toList.take (k + 1)).all okN = true by
          rw [all_take HC.out, HA.out, show okN c = true by unfold okN; rw [hc]; exact decide_eq_true (by omega)]
          rfl)
        clear hc
        go_wp2
        exact ⟨⟨k + 1, by omega, by go_num, HA2.out, trivial⟩, by simp [RowKit.intOf] <;> omega⟩
      ·
        have h45 : (((s1[k].toNat : Nat) : Int) == 45) = false := beq_eq_false_iff_ne.2 (by omega)
        clear hc
        go_wp2
        all_goals first | (go_ret; exact ⟨rfl, HB1.out⟩) | (exfalso; rename_i h; first | (rcases h with h | h <;> simp at h <;> omega) | (simp at h; omega))
    · by_cases h65 : 65 ≤ s1[k].toNat
      · by_cases h90 : s1[k].toNat ≤ 90
        ·
          have HA2 := Lib.hid (show (s1.data.toList.take (k + 1)).all okN = true by
            rw [all_take HC.out, HA.out, show okN c = true by unfold okN; rw [hc]; exact decide_eq_true (by omega)]
            rfl)
          clear hc
          go_wp2
          exact ⟨⟨k + 1, by omega, by go_num, HA2.out, trivial⟩, by simp [RowKit.intOf] <;> omega⟩
        ·
          have h45 : (((s1[k].toNat : Nat) : Int) == 45) = false := beq_eq_false_iff_ne.2 (by omega)
          clear hc
          go_wp2
          all_goals first | (go_ret; exact ⟨rfl, HB1.out⟩) | (exfalso; rename_i h; first | (rcases h with h | h <;> simp at h <;> omega) | (simp at h; omega))
      · by_cases h45' : s1[k].toNat = 45
        · have h45 : (((s1[k].toNat : Nat) : Int) == 45) = true := beq_iff_eq.2 (by omega)
          have HA2 := Lib.hid (show (s1.data.toList.take (k + 1)).all okN = true by
            rw [all_take HC.out, HA.out, show okN c = true by unfold okN; rw [hc]; exact decide_eq_true (by omega)]
            rfl)
          clear hc
          go_wp2
          exact ⟨⟨k + 1, by omega, by go_num, HA2.out, trivial⟩, by simp [RowKit.intOf] <;> omega⟩
        ·
          have h45 : (((s1[k].toNat : Nat) : Int) == 45) = false := beq_eq_false_iff_ne.2 (by omega)
          clear hc
          go_wp2
          all_goals first | (go_ret; exact ⟨rfl, HB1.out⟩) | (exfalso; rename_i h; first | (rcases h with h | h <;> simp at h <;> omega) | (simp at h; omega))
  have hke : k = s1.size := by omega
  subst hke
  rename World => w1
  have HAA := Lib.hid (show s1.data.toList.all okN = true by
    have h := HA.out
    rwa [List.take_of_length_le (by rw [HL1.out]; omega)] at h)
  go_wp2
  go_loopw [11] (fun i wr => ∃ k : Nat, k ≤ s2.size ∧ i = .int .i64 k ∧ RowKit.Hid ((s2.data.toList.take k).all noLB = true) ∧ wr = w1) (fun i _ => s2.size - (RowKit.intOf i).toNat)
  case atStart => exact ⟨0, by omega, rfl, by simp [RowKit.Hid], rfl⟩
  case round =>
  obtain ⟨k, hk, rfl, HV, rfl⟩ := hrel
  by_cases hks : k < s2.size
  · have hki : (k : Int) < s2.size := by omega
    obtain ⟨c, hc⟩ : ∃ c, c = s2[k] := ⟨_, rfl⟩
    have HC := Lib.hid (show s2.data.toList[k]? = some c by rw [hc]; exact str_at s2 k hks)
    by_cases h13 : s2[k].toNat = 13
    · have hb13 : (((s2[k].toNat : Nat) : Int) == 13) = true := beq_iff_eq.2 (by omega)
      clear hc h13
      go_wp2
      go_ret
      exact ⟨rfl, HB1.out⟩
    have hb13 : (((s2[k].toNat : Nat) : Int) == 13) = false := beq_eq_false_iff_ne.2 (by omega)
    by_cases h10 : s2[k].toNat = 10
    · have hb10 : (((s2[k].toNat : Nat) : Int) == 10) = true := beq_iff_eq.2 (by omega)
      clear hc h10
      go_wp2
      go_ret
      exact ⟨rfl, HB1.out⟩
    have hb10 : (((s2[k].toNat : Nat) : Int) == 10) = false := beq_eq_false_iff_ne.2 (by omega)
    have HV2 := Lib.hid (show (s2.data.toList.take (k + 1)).all noLB = true by
      rw [all_take HC.out, HV.out, show noLB c = true by
        unfold noLB
        rw [hc, decide_eq_true (p := s2[k] ≠ 13) (fun h => h13 (by rw [h]; rfl)), decide_eq_true (p := s2[k] ≠ 10) (fun h => h10 (by rw [h]; rfl))]
        rfl]
      rfl)
    clear hc h13 h10
    go_wp2
    exact ⟨⟨k + 1, by omega, by go_num, HV2.out, trivial⟩, by simp [RowKit.intOf] <;> omega⟩
  have hke2 : k = s2.size := by omega
  subst hke2
  have HVV := Lib.hid (show s2.data.toList.all noLB = true by
    have h := HV.out
    rwa [List.take_of_length_le (by rw [HL2.out]; omega)] at h)
  have h1p : 0 < s1.size := by
    have h := HEM.out
    have h2 := HL1.out
    rcases Nat.eq_zero_or_pos s1.size with h0 | h0
    · exact absurd (List.eq_nil_of_length_eq_zero (by omega)) h
    · exact h0
  obtain ⟨c, hc⟩ : ∃ c, c = s1[0] := ⟨_, rfl⟩
  have HC := Lib.hid (show s1.data.toList[0]? = some c by rw [hc]; exact str_at s1 0 h1p)
  by_cases h14 : s1.size = 14
  · have hb14 : ((s1.size : Int) == 14) = true := beq_iff_eq.2 (by omega)
    by_cases h99 : s1[0].toNat = 99
    · have hb99 : (((s1[0].toNat : Nat) : Int) == 99) = true := beq_iff_eq.2 (by omega)
      clear hc h99
      go_wp2
      go_ret
      exact ⟨rfl, HB1.out⟩
    have hb99 : (((s1[0].toNat : Nat) : Int) == 99) = false := beq_eq_false_iff_ne.2 (by omega)
    by_cases h67 : s1[0].toNat = 67
    · have hb67 : (((s1[0].toNat : Nat) : Int) == 67) = true := beq_iff_eq.2 (by omega)
      clear hc h67
      go_wp2
      go_ret
      exact ⟨rfl, HB1.out⟩
    have hb67 : (((s1[0].toNat : Nat) : Int) == 67) = false := beq_eq_false_iff_ne.2 (by omega)
    have HNO := Lib.hid (show ¬ (s1.data.toList.length = 14 ∧ ∃ c, s1.data.toList[0]? = some c ∧ (c.toNat = 99 ∨ c.toNat = 67)) by
      rintro ⟨_, d, hd, h⟩
      rw [HC.out] at hd
      have hd2 := Option.some.inj hd
      rw [← hd2, hc] at h
      omega)
    clear hc h99 h67
    go_wp2_with fail
    rename World => w1
    refine (show_any l0.length w1 (by have : 10 ^ 15 = 1000000000000000 := rfl; omega)).mono ?_
    rintro e w2 ⟨rfl, hb2⟩
    have HB2 := Lib.hid (HB1.out.trans (hb2.mono HB1.out.size))
    have hdl := (decDigits_len 6 l0.length (by decide) (by have : 10 ^ 6 = 1000000 := rfl; omega)).1
    have HFO := Lib.hid (feedL_other (body := l0) bh HEM.out HAA.out HVV.out HNO.out (by rw [HL1.out, HL2.out]; omega) hlz)
    rw [← oth_bytes] at HFO
    obtain ⟨ds, hds⟩ : ∃ ds, ds = Lib.decDigits l0.length := ⟨_, rfl⟩
    rw [← hds] at HFO hdl ⊢
    have HBS : (bs ds).size = ds.length := bs_size ds
    have hsm : smallRows [l0] := fun x h => by
      simp only [List.mem_singleton] at h
      subst h
      omega
    clear hds hb2
    cases bh with
    | true =>
      have hxs : (((⟨#[67, 111, 110, 116, 101, 110, 116, 45, 76, 101, 110, 103, 116, 104, 58]⟩ : ByteArray) ++ bs ds ++ (⟨#[13, 10]⟩ : ByteArray)) ++ (s1 ++ (⟨#[58]⟩ : ByteArray) ++ s2 ++ (⟨#[13, 10]⟩ : ByteArray)) ++ (⟨#[13, 10]⟩ : ByteArray)).size ≤ 2000 := by
        simp only [ByteArray.size_append, HBS]
        have h1 : (⟨#[67, 111, 110, 116, 101, 110, 116, 45, 76, 101, 110, 103, 116, 104, 58]⟩ : ByteArray).size = 15 := rfl
        have h2 : (⟨#[13, 10]⟩ : ByteArray).size = 2 := rfl
        have h3 : (⟨#[58]⟩ : ByteArray).size = 1 := rfl
        omega
      obtain ⟨z, C, W3, hcv, ha3, hb3⟩ := conv_letters w2 (((⟨#[67, 111, 110, 116, 101, 110, 116, 45, 76, 101, 110, 103, 116, 104, 58]⟩ : ByteArray) ++ bs ds ++ (⟨#[13, 10]⟩ : ByteArray)) ++ (s1 ++ (⟨#[58]⟩ : ByteArray) ++ s2 ++ (⟨#[13, 10]⟩ : ByteArray)) ++ (⟨#[13, 10]⟩ : ByteArray))
      obtain ⟨X, hX⟩ : ∃ X, X = (((⟨#[67, 111, 110, 116, 101, 110, 116, 45, 76, 101, 110, 103, 116, 104, 58]⟩ : ByteArray) ++ bs ds ++ (⟨#[13, 10]⟩ : ByteArray)) ++ (s1 ++ (⟨#[58]⟩ : ByteArray) ++ s2 ++ (⟨#[13, 10]⟩ : ByteArray)) ++ (⟨#[13, 10]⟩ : ByteArray)).data.toList := ⟨_, rfl⟩
      have hXl : X.length ≤ 2000 := by rw [hX, Array.length_toList]; exact hxs
      have HFX := Lib.hid (show feedL (X ++ l0) = ([l0], [], 0) by rw [hX]; exact HFO.out)
      rw [← hX] at ha3
      have HA3 := Lib.hid ha3
      have HB3 := Lib.hid (HB2.out.trans (hb3.mono HB2.out.size))
      clear hX hxs ha3 hb3
      have hb4 := (Below.refl W3.heap.size W3).alloc (Nat.le_refl _) (.cells #[.slice (some ⟨w2.heap.size, 0, none⟩) z C, .slice A0 l0.length c0] 27)
      have HB4 := Lib.hid (HB3.out.trans (hb4.mono HB3.out.size))
      have hal := all_any _ [X, l0] _ (two_argR W3 _ _ X l0 HA3.out (argB_below H0.out HB3.out)) (by simp [joinL]; omega) (by simp) (maxL_below HM.out HB4.out hML)
      unfold AllPost at hal
      rw [show joinL [X, l0] = X ++ l0 by simp [joinL], HFX.out] at hal
      have HAL2 := Lib.hid hal
      clear hal hb4
      go_wp2_with fail
      refine HAL2.out.mono ?_
      rintro e w5 ⟨A5, c5, rfl, ha5, hb5⟩
      have HB5 := Lib.hid (HB4.out.trans (hb5.mono HB4.out.size))
      have hb6 := (Below.refl w5.heap.size w5).alloc (Nat.le_refl _) (.cells #[.slice A0 l0.length c0] 27)
      have HB6 := Lib.hid (HB5.out.trans (hb6.mono HB5.out.size))
      have HSR := Lib.hid (sameRows_any _ _ [l0] [l0] _ (ha5.below hb6) (one_argR w5 _ l0 (argB_below H0.out HB5.out)) hsm hsm (by simp) (by simp))
      clear ha5 hb5 hb6
      go_wp2_with fail
      refine HSR.out.mono ?_
      rintro e w7 ⟨he7, q7, rfl⟩
      rw [decide_eq_true rfl] at he7
      subst he7
      go_wp2
      go_ret
      exact ⟨rfl, below_drewN HB6.out q7⟩
    | false =>
      have hxs : ((s1 ++ (⟨#[58]⟩ : ByteArray) ++ s2 ++ (⟨#[13, 10]⟩ : ByteArray)) ++ ((⟨#[67, 111, 110, 116, 101, 110, 116, 45, 76, 101, 110, 103, 116, 104, 58]⟩ : ByteArray) ++ bs ds ++ (⟨#[13, 10]⟩ : ByteArray)) ++ (⟨#[13, 10]⟩ : ByteArray)).size ≤ 2000 := by
        simp only [ByteArray.size_append, HBS]
        have h1 : (⟨#[67, 111, 110, 116, 101, 110, 116, 45, 76, 101, 110, 103, 116, 104, 58]⟩ : ByteArray).size = 15 := rfl
        have h2 : (⟨#[13, 10]⟩ : ByteArray).size = 2 := rfl
        have h3 : (⟨#[58]⟩ : ByteArray).size = 1 := rfl
        omega
      obtain ⟨z, C, W3, hcv, ha3, hb3⟩ := conv_letters w2 ((s1 ++ (⟨#[58]⟩ : ByteArray) ++ s2 ++ (⟨#[13, 10]⟩ : ByteArray)) ++ ((⟨#[67, 111, 110, 116, 101, 110, 116, 45, 76, 101, 110, 103, 116, 104, 58]⟩ : ByteArray) ++ bs ds ++ (⟨#[13, 10]⟩ : ByteArray)) ++ (⟨#[13, 10]⟩ : ByteArray))
      obtain ⟨X, hX⟩ : ∃ X, X = ((s1 ++ (⟨#[58]⟩ : ByteArray) ++ s2 ++ (⟨#[13, 10]⟩ : ByteArray)) ++ ((⟨#[67, 111, 110, 116, 101, 110, 116, 45, 76, 101, 110, 103, 116, 104, 58]⟩ : ByteArray) ++ bs ds ++ (⟨#[13, 10]⟩ : ByteArray)) ++ (⟨#[13, 10]⟩ : ByteArray)).data.toList := ⟨_, rfl⟩
      have hXl : X.length ≤ 2000 := by rw [hX, Array.length_toList]; exact hxs
      have HFX := Lib.hid (show feedL (X ++ l0) = ([l0], [], 0) by rw [hX]; exact HFO.out)
      rw [← hX] at ha3
      have HA3 := Lib.hid ha3
      have HB3 := Lib.hid (HB2.out.trans (hb3.mono HB2.out.size))
      clear hX hxs ha3 hb3
      have hb4 := (Below.refl W3.heap.size W3).alloc (Nat.le_refl _) (.cells #[.slice (some ⟨w2.heap.size, 0, none⟩) z C, .slice A0 l0.length c0] 27)
      have HB4 := Lib.hid (HB3.out.trans (hb4.mono HB3.out.size))
      have hal := all_any _ [X, l0] _ (two_argR W3 _ _ X l0 HA3.out (argB_below H0.out HB3.out)) (by simp [joinL]; omega) (by simp) (maxL_below HM.out HB4.out hML)
      unfold AllPost at hal
      rw [show joinL [X, l0] = X ++ l0 by simp [joinL], HFX.out] at hal
      have HAL2 := Lib.hid hal
      clear hal hb4
      go_wp2_with fail
      refine HAL2.out.mono ?_
      rintro e w5 ⟨A5, c5, rfl, ha5, hb5⟩
      have HB5 := Lib.hid (HB4.out.trans (hb5.mono HB4.out.size))
      have hb6 := (Below.refl w5.heap.size w5).alloc (Nat.le_refl _) (.cells #[.slice A0 l0.length c0] 27)
      have HB6 := Lib.hid (HB5.out.trans (hb6.mono HB5.out.size))
      have HSR := Lib.hid (sameRows_any _ _ [l0] [l0] _ (ha5.below hb6) (one_argR w5 _ l0 (argB_below H0.out HB5.out)) hsm hsm (by simp) (by simp))
      clear ha5 hb5 hb6
      go_wp2_with fail
      refine HSR.out.mono ?_
      rintro e w7 ⟨he7, q7, rfl⟩
      rw [decide_eq_true rfl] at he7
      subst he7
      go_wp2
      go_ret
      exact ⟨rfl, below_drewN HB6.out q7⟩
  · have hb14 : ((s1.size : Int) == 14) = false := beq_eq_false_iff_ne.2 (by omega)
    have HNO := Lib.hid (show ¬ (s1.data.toList.length = 14 ∧ ∃ c, s1.data.toList[0]? = some c ∧ (c.toNat = 99 ∨ c.toNat = 67)) by
      rintro ⟨h, _⟩
      rw [HL1.out] at h
      exact h14 h)
    clear hc h14
    go_wp2_with fail
    rename World => w1
    refine (show_any l0.length w1 (by have : 10 ^ 15 = 1000000000000000 := rfl; omega)).mono ?_
    rintro e w2 ⟨rfl, hb2⟩
    have HB2 := Lib.hid (HB1.out.trans (hb2.mono HB1.out.size))
    have hdl := (decDigits_len 6 l0.length (by decide) (by have : 10 ^ 6 = 1000000 := rfl; omega)).1
    have HFO := Lib.hid (feedL_other (body := l0) bh HEM.out HAA.out HVV.out HNO.out (by rw [HL1.out, HL2.out]; omega) hlz)
    rw [← oth_bytes] at HFO
    obtain ⟨ds, hds⟩ : ∃ ds, ds = Lib.decDigits l0.length := ⟨_, rfl⟩
    rw [← hds] at HFO hdl ⊢
    have HBS : (bs ds).size = ds.length := bs_size ds
    have hsm : smallRows [l0] := fun x h => by
      simp only [List.mem_singleton] at h
      subst h
      omega
    clear hds hb2
    cases bh with
    | true =>
      have hxs : (((⟨#[67, 111, 110, 116, 101, 110, 116, 45, 76, 101, 110, 103, 116, 104, 58]⟩ : ByteArray) ++ bs ds ++ (⟨#[13, 10]⟩ : ByteArray)) ++ (s1 ++ (⟨#[58]⟩ : ByteArray) ++ s2 ++ (⟨#[13, 10]⟩ : ByteArray)) ++ (⟨#[13, 10]⟩ : ByteArray)).size ≤ 2000 := by
        simp only [ByteArray.size_append, HBS]
        have h1 : (⟨#[67, 111, 110, 116, 101, 110, 116, 45, 76, 101, 110, 103, 116, 104, 58]⟩ : ByteArray).size = 15 := rfl
        have h2 : (⟨#[13, 10]⟩ : ByteArray).size = 2 := rfl
        have h3 : (⟨#[58]⟩ : ByteArray).size = 1 := rfl
        omega
      obtain ⟨z, C, W3, hcv, ha3, hb3⟩ := conv_letters w2 (((⟨#[67, 111, 110, 116, 101, 110, 116, 45, 76, 101, 110, 103, 116, 104, 58]⟩ : ByteArray) ++ bs ds ++ (⟨#[13, 10]⟩ : ByteArray)) ++ (s1 ++ (⟨#[58]⟩ : ByteArray) ++ s2 ++ (⟨#[13, 10]⟩ : ByteArray)) ++ (⟨#[13, 10]⟩ : ByteArray))
      obtain ⟨X, hX⟩ : ∃ X, X = (((⟨#[67, 111, 110, 116, 101, 110, 116, 45, 76, 101, 110, 103, 116, 104, 58]⟩ : ByteArray) ++ bs ds ++ (⟨#[13, 10]⟩ : ByteArray)) ++ (s1 ++ (⟨#[58]⟩ : ByteArray) ++ s2 ++ (⟨#[13, 10]⟩ : ByteArray)) ++ (⟨#[13, 10]⟩ : ByteArray)).data.toList := ⟨_, rfl⟩
      have hXl : X.length ≤ 2000 := by rw [hX, Array.length_toList]; exact hxs
      have HFX := Lib.hid (show feedL (X ++ l0) = ([l0], [], 0) by rw [hX]; exact HFO.out)
      rw [← hX] at ha3
      have HA3 := Lib.hid ha3
      have HB3 := Lib.hid (HB2.out.trans (hb3.mono HB2.out.size))
      clear hX hxs ha3 hb3
      have hb4 := (Below.refl W3.heap.size W3).alloc (Nat.le_refl _) (.cells #[.slice (some ⟨w2.heap.size, 0, none⟩) z C, .slice A0 l0.length c0] 27)
      have HB4 := Lib.hid (HB3.out.trans (hb4.mono HB3.out.size))
      have hal := all_any _ [X, l0] _ (two_argR W3 _ _ X l0 HA3.out (argB_below H0.out HB3.out)) (by simp [joinL]; omega) (by simp) (maxL_below HM.out HB4.out hML)
      unfold AllPost at hal
      rw [show joinL [X, l0] = X ++ l0 by simp [joinL], HFX.out] at hal
      have HAL2 := Lib.hid hal
      clear hal hb4
      go_wp2_with fail
      refine HAL2.out.mono ?_
      rintro e w5 ⟨A5, c5, rfl, ha5, hb5⟩
      have HB5 := Lib.hid (HB4.out.trans (hb5.mono HB4.out.size))
      have hb6 := (Below.refl w5.heap.size w5).alloc (Nat.le_refl _) (.cells #[.slice A0 l0.length c0] 27)
      have HB6 := Lib.hid (HB5.out.trans (hb6.mono HB5.out.size))
      have HSR := Lib.hid (sameRows_any _ _ [l0] [l0] _ (ha5.below hb6) (one_argR w5 _ l0 (argB_below H0.out HB5.out)) hsm hsm (by simp) (by simp))
      clear ha5 hb5 hb6
      go_wp2_with fail
      refine HSR.out.mono ?_
      rintro e w7 ⟨he7, q7, rfl⟩
      rw [decide_eq_true rfl] at he7
      subst he7
      go_wp2
      go_ret
      exact ⟨rfl, below_drewN HB6.out q7⟩
    | false =>
      have hxs : ((s1 ++ (⟨#[58]⟩ : ByteArray) ++ s2 ++ (⟨#[13, 10]⟩ : ByteArray)) ++ ((⟨#[67, 111, 110, 116, 101, 110, 116, 45, 76, 101, 110, 103, 116, 104, 58]⟩ : ByteArray) ++ bs ds ++ (⟨#[13, 10]⟩ : ByteArray)) ++ (⟨#[13, 10]⟩ : ByteArray)).size ≤ 2000 := by
        simp only [ByteArray.size_append, HBS]
        have h1 : (⟨#[67, 111, 110, 116, 101, 110, 116, 45, 76, 101, 110, 103, 116, 104, 58]⟩ : ByteArray).size = 15 := rfl
        have h2 : (⟨#[13, 10]⟩ : ByteArray).size = 2 := rfl
        have h3 : (⟨#[58]⟩ : ByteArray).size = 1 := rfl
        omega
      obtain ⟨z, C, W3, hcv, ha3, hb3⟩ := conv_letters w2 ((s1 ++ (⟨#[58]⟩ : ByteArray) ++ s2 ++ (⟨#[13, 10]⟩ : ByteArray)) ++ ((⟨#[67, 111, 110, 116, 101, 110, 116, 45, 76, 101, 110, 103, 116, 104, 58]⟩ : ByteArray) ++ bs ds ++ (⟨#[13, 10]⟩ : ByteArray)) ++ (⟨#[13, 10]⟩ : ByteArray))
      obtain ⟨X, hX⟩ : ∃ X, X = ((s1 ++ (⟨#[58]⟩ : ByteArray) ++ s2 ++ (⟨#[13, 10]⟩ : ByteArray)) ++ ((⟨#[67, 111, 110, 116, 101, 110, 116, 45, 76, 101, 110, 103, 116, 104, 58]⟩ : ByteArray) ++ bs ds ++ (⟨#[13, 10]⟩ : ByteArray)) ++ (⟨#[13, 10]⟩ : ByteArray)).data.toList := ⟨_, rfl⟩
      have hXl : X.length ≤ 2000 := by rw [hX, Array.length_toList]; exact hxs
      have HFX := Lib.hid (show feedL (X ++ l0) = ([l0], [], 0) by rw [hX]; exact HFO.out)
      rw [← hX] at ha3
      have HA3 := Lib.hid ha3
      have HB3 := Lib.hid (HB2.out.trans (hb3.mono HB2.out.size))
      clear hX hxs ha3 hb3
      have hb4 := (Below.refl W3.heap.size W3).alloc (Nat.le_refl _) (.cells #[.slice (some ⟨w2.heap.size, 0, none⟩) z C, .slice A0 l0.length c0] 27)
      have HB4 := Lib.hid (HB3.out.trans (hb4.mono HB3.out.size))
      have hal := all_any _ [X, l0] _ (two_argR W3 _ _ X l0 HA3.out (argB_below H0.out HB3.out)) (by simp [joinL]; omega) (by simp) (maxL_below HM.out HB4.out hML)
      unfold AllPost at hal
      rw [show joinL [X, l0] = X ++ l0 by simp [joinL], HFX.out] at hal
      have HAL2 := Lib.hid hal
      clear hal hb4
      go_wp2_with fail
      refine HAL2.out.mono ?_
      rintro e w5 ⟨A5, c5, rfl, ha5, hb5⟩
      have HB5 := Lib.hid (HB4.out.trans (hb5.mono HB4.out.size))
      have hb6 := (Below.refl w5.heap.size w5).alloc (Nat.le_refl _) (.cells #[.slice A0 l0.length c0] 27)
      have HB6 := Lib.hid (HB5.out.trans (hb6.mono HB5.out.size))
      have HSR := Lib.hid (sameRows_any _ _ [l0] [l0] _ (ha5.below hb6) (one_argR w5 _ l0 (argB_below H0.out HB5.out)) hsm hsm (by simp) (by simp))
      clear ha5 hb5 hb6
      go_wp2_with fail
      refine HSR.out.mono ?_
      rintro e w7 ⟨he7, q7, rfl⟩
      rw [decide_eq_true rfl] at he7
      subst he7
      go_wp2
      go_ret
      exact ⟨rfl, below_drewN HB6.out q7⟩
end Go.Proofs.YtphnplpgeoleeaaDoor
