/- A dead decoder's Feed, an append onto what a string was made, and Encode. -/
import Derived.Test.YtphnplpgeoleeaaDoorFraK
import Derived.Test.YtphnplpgeoleeaaDoorShelfI
import Derived.ArgAppend
import Derived.Laws.IdiomCopy
import Derived.Laws.IdiomStrings
import Derived.Lib.LazyBuf
import Derived.Lib.SmallJoins
import Derived.Lib.AppendIntMem
import Derived.Lib.AppendZeros
namespace Go.Proofs.YtphnplpgeoleeaaDoor
open Go.RowKit Go.Lib Go.Shelf
set_option maxRecDepth 100000
set_option linter.unusedVariables false
set_option linter.unusedSectionVars false

/-- a dead decoder tells its error. -/
def DeadPost (e : Int) (w : World) (r : Ending) (w' : World) : Prop := r = .returned (.tuple #[.slice none 0 0, .int .i64 e]) ∧ ∃ q, w' = w.drewN q
theorem feed_dead (D : Nat) (hv u : Value) (e : Nat) (w : World) (hd : DecAt w D hv (e : Nat)) (he : e ≠ 0) :
    Calls Tryd.prog 14 #[.pointer (some ⟨D, 0, none⟩), u] w (DeadPost (e : Nat) w) := by
  obtain ⟨h0, h1, z0, z1⟩ := hd.cells
  have hne : ((e : Int) != 0) = true := by rw [bne_iff_ne]; omega
  clear hd he
  go_enter Tryd.func14, Tryd.ntmps14
  go_wp2
  go_quiet (fail)
  go_wp2
  go_ret2
  exact ⟨rfl, _, rfl⟩
theorem argB_cells {w : World} {ad : Addr} {n c : Nat} {l : List UInt8} (h : ArgB w (.slice (some ad) n c) l) : ∀ (j : Nat) (u : Value), (bytesV l)[j]? = some u → w.cell? (ad.add j) = some u := by
  intro j u hu
  have hj : j < (bytesV l).length := (List.getElem?_eq_some_iff.1 hu).1
  obtain ⟨⟨hln, A, c', e, _, hr⟩, _⟩ := h
  rw [bytesV_len] at hj
  obtain ⟨g, o', rfl, hg, hr⟩ := hr (by omega)
  simp only [Value.slice.injEq, Option.some.injEq] at e
  obtain ⟨rfl, _, _⟩ := e
  rw [add_off, hr j (by omega)]
  exact hu
/-- an append of bytes onto a slice of which only the cells are known. -/
theorem run_append_raw (w : World) (g n cap : Nat) (l m : List UInt8) (u : Value) (ty : TypeId) (hcell : ∀ j, j < cap → (w.cell? ⟨g, j, none⟩).isSome = true) (hfz : ∀ j, j < cap → w.frozen? ⟨g, j, none⟩ = false)
    (h0 : ∀ j u, (bytesV l)[j]? = some u → w.cell? ⟨g, j, none⟩ = some u) (hn : n = l.length) (hnc : n ≤ cap) (hg : g < w.heap.size) (hA : ArgB w u m) (hlen : n + m.length ≤ 140737488355328) :
    ∃ v' w', (Builtin.append_ #[27, 27] ty #[.slice (some ⟨g, 0, none⟩) n cap, u]).run Tryd.prog w = .ok v' w' ∧ ArgB w' v' (l ++ m) ∧ Below g w w' := by
  obtain ⟨i, hi, hz0, hz1, hz2⟩ := info_parts infoByte
  have ht := Tryd.underlying27
  subst hn
  rcases hA.2 with rfl | ⟨ad, c, rfl⟩
  · have hm : m = [] := by
      obtain ⟨⟨_, A, c', e', _⟩, _⟩ := hA
      simp only [Value.slice.injEq] at e'
      exact List.eq_nil_of_length_eq_zero e'.2.1.symm
    subst hm
    refine ⟨_, w, by simp [Builtin.append_, run_underlying ht, sizeOf, typeInfo, hi, Builtin.lenOf, Builtin.firstCells, hnc, storeCells]; rfl, ?_, Below.refl _ _⟩
    rw [List.append_nil]
    exact ⟨⟨by rw [bytesV_len, Nat.mul_one], _, _, rfl, hnc, fun _ => ⟨g, 0, rfl, hg, fun j hj => by
      rw [Nat.zero_add]
      have hj2 : j < (bytesV l).length := by rw [bytesV_len]; omega
      rw [h0 j _ (List.getElem?_eq_getElem hj2), List.getElem?_eq_getElem hj2]⟩⟩, .inr ⟨_, _, rfl⟩⟩
  · have hnews := argB_cells hA
    have hml : (bytesV m).length = m.length * 1 := by rw [bytesV_len, Nat.mul_one]
    by_cases hroom : l.length + m.length ≤ cap
    · have hr := run_append_room_cells (P := Tryd.prog) w 27 ty 5 i ht hi g 0 l.length cap ad m.length c (bytesV m) (by rw [hz1]; exact hml) hnews (bytesV_plain _) hroom
        (fun j hj => by rw [hz1]; rw [hml] at hj; exact hcell _ (by omega)) (fun j hj => by rw [hz1]; rw [hml] at hj; exact hfz _ (by omega))
      rw [hz1] at hr
      have hin := World.cell?_setCells_in g (bytesV m) (0 + l.length * 1) w (fun j hj => hcell _ (by rw [hml] at hj; omega))
      refine ⟨_, _, hr, ⟨⟨by rw [bytesV_len, Nat.mul_one], _, _, by rw [List.length_append], by rw [List.length_append]; exact hroom, fun _ => ⟨g, 0, rfl, ?_, fun j hj => ?_⟩⟩, .inr ⟨_, _, by rw [List.length_append]⟩⟩, below_setCells (Nat.le_refl _) _ _ _ (Below.refl _ _)⟩
      · have := (below_setCells (B := 0) (Nat.zero_le g) (bytesV m) (0 + l.length * 1) w (Below.refl 0 w)).size
        omega
      · rw [List.length_append] at hj
        rw [← bytesV_app]
        by_cases hjl : j < l.length
        · rw [List.getElem?_append_left (by rw [bytesV_len]; exact hjl), World.cell?_setCells_out g _ _ _ _ (fun _ _ => .inl (by show 0 + j < 0 + l.length * 1; omega)), Nat.zero_add]
          have hj2 : j < (bytesV l).length := by rw [bytesV_len]; omega
          rw [h0 j _ (List.getElem?_eq_getElem hj2), List.getElem?_eq_getElem hj2]
        · have hk : j - l.length < (bytesV m).length := by rw [hml]; omega
          rw [List.getElem?_append_right (by rw [bytesV_len]; omega), bytesV_len]
          have := hin (j - l.length) hk
          rw [show 0 + l.length * 1 + (j - l.length) = 0 + j by omega] at this
          rw [this, List.getElem?_eq_getElem hk]
    · obtain ⟨v', w', hr, ho, hgr⟩ := run_append_arg_grows (P := Tryd.prog) w 27 ty 5 i _ 1 1 ht hi hz0 hz1 hz2 rfl (by decide) ⟨g, 0, none⟩ l.length cap (bytesV l) (by rw [bytesV_len, Nat.mul_one]) (fun j u hu => by rw [add_off, Nat.zero_add]; exact h0 j u hu) ad m.length c (bytesV m) hml hnews (by omega) (by unfold maxLen; omega) (by omega)
      refine ⟨v', w', hr, ?_, ((Below.refl g w).grown hgr (by omega) (fun _ e => by cases e))⟩
      rw [← List.length_append, bytesV_app] at ho
      exact own_argB ho
theorem decDigits_len : ∀ (k n : Nat), 0 < k → n < 10 ^ k → (Lib.decDigits n).length ≤ k ∧ 0 < (Lib.decDigits n).length := by
  intro k
  induction k with
  | zero => intro n h; omega
  | succ k ih =>
    intro n _ hn
    rw [Lib.decDigits]
    by_cases h : n < 10
    · rw [dif_pos h]
      simp
    · rw [dif_neg h, List.length_append]
      have hk : 0 < k := by
        rcases Nat.eq_zero_or_pos k with rfl | h'
        · simp at hn; omega
        · exact h'
      have := ih (n / 10) hk (by rw [Nat.pow_succ] at hn; omega)
      simp
      omega
/-- the tables' fact that Itoa leans on. -/
def Pow (w : World) : Prop := Lib.TabIs Tryd.prog w "internal/strconv.uint64pow10" .u64 Lib.pow10Tab
theorem pow_below {w w' : World} (h : Pow w) (hb : Below w.heap.size w w') : Pow w' := Joins.tab_stays (B := w.heap.size) (g := 4) (by kernel_rfl) h hb (Nat.le_refl _)
def sizeName : List UInt8 := [67, 111, 110, 116, 101, 110, 116, 45, 76, 101, 110, 103, 116, 104, 58, 32]
/-- a message's head. -/
def headF (n : Nat) : List UInt8 := sizeName ++ Lib.decDigits n ++ nl2
def encF (l : List UInt8) : List UInt8 := headF l.length ++ l
theorem itoa_any (n : Nat) (w : World) (hn : n < 9223372036854775808) (hP : Pow w) : Calls Tryd.prog 29 #[.int .i64 (n : Nat)] w fun e w' => e = .returned (.string (bs (Lib.decDigits n))) ∧ Below w.heap.size w w' :=
  (Any.strconv_Itoa Tryd.laysM171 (n : Int) (by omega) (by omega) w hP).mono fun e w' ⟨h1, k, os, h2⟩ => ⟨by rw [h1]; unfold Lib.itoa bs; rw [if_neg (by omega)]; simp, by rw [h2]; exact Lib.below_grow _ w (Nat.le_refl _) k os⟩
theorem encode_big (v : Value) (l : List UInt8) (w : World) (h : ArgB w v l) (hl : 65536 < l.length) : Calls Tryd.prog 20 #[v] w fun e w' => e = .returned (.tuple #[.slice none 0 0, .int .i64 31]) ∧ w = w' := by
  obtain ⟨A, c, rfl, hc⟩ := h.shape
  have hg : decide ((65536 : Int) < (l.length : Int)) = true := decide_eq_true (by omega)
  clear h hl
  go_enter Tryd.func20, Tryd.ntmps20
  go_wp2
  go_ret2
  exact ⟨rfl, by first | rfl | trivial⟩
/-- '[]byte(s)' and an append onto it. -/
theorem run_append_conv (W : World) (X : ByteArray) (u : Value) (m : List UInt8) (ty : TypeId) (hA : ArgB W u m) (hlen : X.size + m.length ≤ 140737488355328) :
    (convert 9 27 (.string X)).run Tryd.prog W = .ok (.slice (some ⟨W.heap.size, 0, none⟩) X.size (grownCap W X.size 0 5)) (W.drew.alloc (.cells (bytesRow X (grownCap W X.size 0 5)) 5 ((bytesRow X (grownCap W X.size 0 5)).size, (bytesRow X (grownCap W X.size 0 5)).size + 1))) ∧
    ∃ v' w', (Builtin.append_ #[27, 27] ty #[.slice (some ⟨W.heap.size, 0, none⟩) X.size (grownCap W X.size 0 5), u]).run Tryd.prog (W.drew.alloc (.cells (bytesRow X (grownCap W X.size 0 5)) 5 ((bytesRow X (grownCap W X.size 0 5)).size, (bytesRow X (grownCap W X.size 0 5)).size + 1))) = .ok v' w' ∧ ArgB w' v' (X.data.toList ++ m) ∧ Below W.heap.size W w' := by
  refine ⟨run_bytes_of_string W _ _ _ X Tryd.underlying9 Tryd.underlying27 Tryd.underlying5, ?_⟩
  have hge := grownCap_ge W X.size 0 5
  obtain ⟨C, hC⟩ : ∃ C, C = grownCap W X.size 0 5 := ⟨_, rfl⟩
  rw [← hC] at hge ⊢
  have hbr : (bytesRow X C).size = C := by
    unfold bytesRow
    rw [Array.size_append, Array.size_map, Array.size_replicate]
    have : X.data.size = X.size := rfl
    omega
  have hB1 : Below W.heap.size W (W.drew.alloc (.cells (bytesRow X C) 5 ((bytesRow X C).size, (bytesRow X C).size + 1))) := ((Below.refl W.heap.size W).drew).alloc (by exact Nat.le_refl _) _
  obtain ⟨v', w', hr, ha, hb⟩ := run_append_raw (W.drew.alloc (.cells (bytesRow X C) 5 ((bytesRow X C).size, (bytesRow X C).size + 1))) W.heap.size X.size C X.data.toList m u ty
    (fun j hj => by
      have h := World.cell?_alloc_mark W.drew (bytesRow X C) 5 ((bytesRow X C).size, (bytesRow X C).size + 1) j
      rw [show W.drew.heap.size = W.heap.size from rfl] at h
      rw [h, Array.getElem?_eq_getElem (by omega)]
      rfl)
    (fun j hj => by
      unfold World.frozen?
      rw [show (W.drew.alloc (.cells (bytesRow X C) 5 ((bytesRow X C).size, (bytesRow X C).size + 1))).heap[W.heap.size]? = some (.cells (bytesRow X C) 5 ((bytesRow X C).size, (bytesRow X C).size + 1)) by
        show (W.heap.push _)[W.heap.size]? = _
        simp]
      simp
      omega)
    (fun j v hv => by
      have h := World.cell?_alloc_mark W.drew (bytesRow X C) 5 ((bytesRow X C).size, (bytesRow X C).size + 1) j
      rw [show W.drew.heap.size = W.heap.size from rfl] at h
      rw [h]
      have hj : j < X.data.toList.length := by
        have := (List.getElem?_eq_some_iff.1 hv).1
        rwa [bytesV_len] at this
      rw [bytesV_get _ _ hj] at hv
      rw [← hv]
      have hj' : j < X.data.size := by simpa using hj
      unfold bytesRow
      rw [Array.getElem?_append_left (by simpa using hj')]
      simp
      exact ⟨X.data[j], Array.getElem?_eq_getElem hj', rfl⟩)
    (by simp) hge (by show W.heap.size < (W.heap.push _).size; simp) (argB_below hA hB1) hlen
  exact ⟨v', w', hr, ha, (hB1.trans hb)⟩
/-- .. with letters for what the walk need not know. -/
theorem run_append_conv' (W : World) (X : ByteArray) (u : Value) (m : List UInt8) (ty : TypeId) (hA : ArgB W u m) (hlen : X.size + m.length ≤ 140737488355328) :
    ∃ n C W2 v' w', (convert 9 27 (.string X)).run Tryd.prog W = .ok (.slice (some ⟨W.heap.size, 0, none⟩) n C) W2 ∧ (Builtin.append_ #[27, 27] ty #[.slice (some ⟨W.heap.size, 0, none⟩) n C, u]).run Tryd.prog W2 = .ok v' w' ∧ ArgB w' v' (X.data.toList ++ m) ∧ Below W.heap.size W w' := by
  obtain ⟨h1, v', w', h2, h3, h4⟩ := run_append_conv W X u m ty hA hlen
  exact ⟨_, _, _, v', w', h1, h2, h3, h4⟩
theorem head_bytes (n : Nat) : ((⟨#[67, 111, 110, 116, 101, 110, 116, 45, 76, 101, 110, 103, 116, 104, 58, 32]⟩ : ByteArray) ++ bs (Lib.decDigits n) ++ (⟨#[13, 10]⟩ : ByteArray) ++ (⟨#[13, 10]⟩ : ByteArray)).data.toList = headF n := by
  simp [headF, sizeName, nl2, bs]
set_option maxHeartbeats 1000000 in
theorem encode_any (v : Value) (l : List UInt8) (w : World) (h : ArgB w v l) (hl : l.length ≤ 65536) (hP : Pow w) :
    Calls Tryd.prog 20 #[v] w fun e w' => ∃ v', e = .returned (.tuple #[v', .int .i64 0]) ∧ RowKit.Hid (ArgB w' v' (encF l)) ∧ Below w.heap.size w w' := by
  have HA := Lib.hid h
  obtain ⟨A, c, rfl, hc⟩ := h.shape
  have hg : decide ((65536 : Int) < (l.length : Int)) = false := decide_eq_false (by omega)
  have HIT := Lib.hid (itoa_any l.length w (by omega) hP)
  have hdl := (decDigits_len 5 l.length (by decide) (by have : 10 ^ 5 = 100000 := rfl; omega)).1
  obtain ⟨ds, hds⟩ : ∃ ds, ds = Lib.decDigits l.length := ⟨_, rfl⟩
  rw [← hds] at HIT hdl
  have HDS := Lib.hid hds
  have HBS : (bs ds).size = ds.length := bs_size ds
  obtain ⟨n, hn⟩ : ∃ n, n = l.length := ⟨_, rfl⟩
  rw [← hn] at HIT hl hc hg HDS HA ⊢
  have HN := Lib.hid hn
  have HCV := Lib.hid (fun (W : World) (hW : Below w.heap.size w W) (ty : TypeId) => run_append_conv' W ((⟨#[67, 111, 110, 116, 101, 110, 116, 45, 76, 101, 110, 103, 116, 104, 58, 32]⟩ : ByteArray) ++ bs ds ++ (⟨#[13, 10]⟩ : ByteArray) ++ (⟨#[13, 10]⟩ : ByteArray)) (.slice A n c) l ty (argB_below HA.out hW) (by simp [ByteArray.size_append]; have : (⟨#[67, 111, 110, 116, 101, 110, 116, 45, 76, 101, 110, 103, 116, 104, 58, 32]⟩ : ByteArray).size = 16 := rfl; have : (⟨#[13, 10]⟩ : ByteArray).size = 2 := rfl; omega))
  clear h hP hds hn
  go_enter Tryd.func20, Tryd.ntmps20
  go_wp2_with (go_at_call 29; with_reducible (refine HIT.out.mono ?_); rintro e w1 ⟨rfl, hb1⟩; have HB1 := Lib.hid hb1; clear hb1)
  obtain ⟨z, C, W2, v', w2, hcv, hap, ha2, hb2⟩ := HCV.out w1 HB1.out 27
  rw [hcv]
  have HAP := Lib.hid hap
  have HA2 := Lib.hid ha2
  have HB2 := Lib.hid hb2
  clear hcv hap ha2 hb2
  go_wp2_with (at_builtin; refine wpList_append_run _ rfl _ _ 27 27 rfl _ _ rfl rfl v' w2 HAP.out ?_)
  go_ret2
  refine ⟨_, rfl, ?_, HB1.out.trans (HB2.out.mono HB1.out.size)⟩
  have h := HA2.out
  rw [HDS.out, head_bytes, HN.out] at h
  exact h
end Go.Proofs.YtphnplpgeoleeaaDoor
