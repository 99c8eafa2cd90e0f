/- The contract of utf's Text. -/
import Derived.Test.YtdeihlbnlogjcaaDoorUtfD
namespace Go.Proofs.YtdeihlbnlogjcaaDoor
open Go.RowKit Go.Lib Go.Shelf
set_option maxRecDepth 100000
set_option linter.unusedVariables false
set_option linter.unusedSectionVars false

theorem infoByte : (Tryd.prog.info? 5).map (fun i => (i.zero, i.size, i.bytes)) = some (some (.int .u8 0), 1, 1) := by kernel_rfl
theorem cell_u8 (x : Int) (h0 : 0 ≤ x) (h1 : x < 256) : byteV (x.toNat.toUInt8) = .int .u8 x := by
  unfold byteV
  rw [Ut.u8 x h0 h1]
  congr 1
  omega
theorem rune_cells (r : Int) (h : Ut.isR r = true) : runeCells r = bytesV (encodeRune r) := by
  unfold runeCells encodeRune bytesV
  rw [List.map_map]
  rcases Ut.enc_cases r h with ⟨h0, h1, e⟩ | ⟨h0, h1, e⟩ | ⟨h0, h1, h2, e⟩ | ⟨h0, h1, e⟩
  · rw [e]
    simp only [List.map_cons, List.map_nil, Function.comp_apply]
    rw [cell_u8 _ h0 (by omega)]
  · rw [e]
    simp only [List.map_cons, List.map_nil, Function.comp_apply]
    rw [cell_u8 _ (by omega) (by omega), cell_u8 _ (by omega) (by omega)]
  · rw [e]
    simp only [List.map_cons, List.map_nil, Function.comp_apply]
    rw [cell_u8 _ (by omega) (by omega), cell_u8 _ (by omega) (by omega), cell_u8 _ (by omega) (by omega)]
  · rw [e]
    simp only [List.map_cons, List.map_nil, Function.comp_apply]
    rw [cell_u8 _ (by omega) (by omega), cell_u8 _ (by omega) (by omega), cell_u8 _ (by omega) (by omega), cell_u8 _ (by omega) (by omega)]
/-- the library's AppendRune onto bytes of the call's own. -/
theorem append_any (B : Nat) (v : Value) (l : List UInt8) (r : Int) (h : Ut.isR r = true) (w : World) (hown : w.ownsRow B 5 1 v l.length (bytesV l)) (hl : l.length ≤ 1099511627776) (hB : B ≤ w.heap.size) :
    Calls Tryd.prog 58 #[v, .int .i32 r] w fun e w' => ∃ v', e = .returned v' ∧ RowKit.Hid (w'.ownsRow B 5 1 v' (l ++ encodeRune r).length (bytesV (l ++ encodeRune r))) ∧ Below B w w' := by
  have hr : 0 ≤ r ∧ r ≤ 1114111 := by simp only [Ut.isR, decide_eq_true_eq] at h; omega
  refine (Any.utf8_AppendRune_plain Tryd.lays242 infoByte B v l.length (bytesV l) r (by omega) (by omega) w hown (by omega) hB).mono ?_
  rintro e w' ⟨v', rfl, ho, o, hg⟩
  refine ⟨v', rfl, ?_, ((Below.refl _ _).alloc hB o).grown hg (by simp; omega) (fun j e => (hown.lt j e).1)⟩
  rw [rune_cells r h, bytesV_app] at ho
  rw [List.length_append]
  have e1 : (bytesV (encodeRune r)).length = (encodeRune r).length := bytesV_len _
  rw [e1] at ho
  exact ho
/-- what Text answers. -/
def TextPost (l : List Int) (w : World) (e : Ending) (w' : World) : Prop :=
  (if l.all Ut.isR = true then e = .returned (.tuple #[.string ⟨⟨Ut.encs l⟩⟩, .int .i64 0]) else e = .returned (.tuple #[.string ⟨#[]⟩, .int .i64 40])) ∧ Below w.heap.size w w'
theorem encs_take {rs : List Int} {k : Nat} {r : Int} (h : rs[k]? = some r) : Ut.encs (rs.take (k + 1)) = Ut.encs (rs.take k) ++ encodeRune r := by
  rw [List.take_add_one, h, Ut.encs_app]
  simp [Ut.encs]
theorem encs_count (rs : List Int) (h : ∀ r ∈ rs, Ut.isR r = true) : (Ut.encs rs).length ≤ 4 * rs.length := by
  induction rs with
  | nil => simp [Ut.encs]
  | cons r rs ih =>
    have := ih fun u hu => h u (List.mem_cons_of_mem _ hu)
    have := Ut.enc_len r (h r (List.mem_cons_self ..))
    rw [Ut.encs_cons, List.length_append, List.length_cons]
    omega
set_option maxHeartbeats 2000000 in
theorem text_any (v : Value) (rs : List Int) (w : World) (B : Nat) (hB : B ≤ w.heap.size) (h : Rd w B 1 v rs.length (intsV rs)) (hl : rs.length ≤ 4294967296) :
    Calls Tryd.prog 30 #[v] w (TextPost rs w) := by
  obtain ⟨i0, hi, hz0, hz1, hz2⟩ := info_parts infoByte
  obtain ⟨-, A, c, rfl, hc, hr0⟩ := h
  obtain ⟨n, hn⟩ : ∃ n, n = rs.length := ⟨_, rfl⟩
  rw [← hn] at hr0 hc hl ⊢
  have HN := Lib.hid hn
  have HR := Lib.hid hr0
  have hmk := fun W : World => run_make (P := Tryd.prog) W 22 5 i0 _ Tryd.underlying22 hi hz0 .i64 .i64 0 n (by omega) (by omega) (by rw [hz2]; omega) (by omega)
  simp only [Int.toNat_zero, Int.toNat_natCast, hz1, Nat.mul_one] at hmk
  have hmade := World.ownsRow_made (e := 5) (size := 1) (base := w.heap.size) w (madeCells #[Value.int IntKind.u8 0] n) n (Nat.le_refl _) (by unfold maxLen; omega) (by rw [size_madeCells, Nat.mul_one])
  have HMA := Lib.hid (show (w.alloc (Obj.cells (madeCells #[Value.int IntKind.u8 0] n) 5)).ownsRow w.heap.size 5 1 (.slice (some ⟨w.heap.size, 0, none⟩) 0 n) ([] : List UInt8).length (bytesV []) by simpa [bytesV] using hmade)
  clear hn hr0 hmade
  go_enter Tryd.func30, Tryd.ntmps30
  go_wp2
  go_loopw [4, 12] (fun v i wr => ∃ k : Nat, k ≤ n ∧ i = .int .i64 k ∧ RowKit.Hid (∀ r ∈ rs.take k, Ut.isR r = true) ∧ RowKit.Hid (wr.ownsRow w.heap.size 5 1 v (Ut.encs (rs.take k)).length (bytesV (Ut.encs (rs.take k)))) ∧ RowKit.Hid (Below w.heap.size w wr)) (fun _ i _ => n - (RowKit.intOf i).toNat)
  case atStart => exact ⟨0, by omega, rfl, fun _ h => by simp at h, HMA.out, (Below.refl _ _).alloc (Nat.le_refl _) _⟩
  case round =>
    obtain ⟨k, hk, rfl, HIS, HO, HB⟩ := hrel
    have hsz : w.heap.size ≤ wr.heap.size := HB.out.size
    clear hmk
    have hcnt := encs_count _ HIS.out
    rw [List.length_take] at hcnt
    by_cases hlt : k < n
    · obtain ⟨g, o, rfl, hg, hr⟩ := HR.out (by omega)
      obtain ⟨r, hrk, d0⟩ := rd_int hr HN.out hlt
      have c0 := (HB.out.cell (p := ⟨g, o + k, none⟩) (by show g < _; omega)).trans d0
      have hkn : (k : Int) < n := by omega
      have HRK := Lib.hid hrk
      have hmem : r ∈ rs := List.mem_of_getElem? hrk
      have HI := Lib.hid (fun W => isRune_any r W)
      clear hr d0 hrk
      cases his : Ut.isR r
      · rw [his] at HI
        have HALL := Lib.hid (show ¬ rs.all Ut.isR = true by
          intro h
          rw [List.all_eq_true] at h
          have := h r hmem
          rw [his] at this
          cases this)
        clear hmem his
        go_wp2_with (first | (go_at_call 57; with_reducible (refine (HI.out _).mono ?_); rintro e w1 ⟨rfl, rfl⟩))
        go_ret2
        exact ⟨by rw [if_neg HALL.out]; rfl, HB.out⟩
      · rw [his] at HI
        have hrb : 0 ≤ r ∧ r ≤ 1114111 := by simp only [Ut.isR, decide_eq_true_eq] at his; omega
        obtain ⟨hr1, hr2⟩ := hrb
        have HT := Lib.hid (encs_take HRK.out)
        have HAP := Lib.hid (append_any w.heap.size u4 _ r his wr HO.out (by omega) hsz)
        have HIS2 := Lib.hid (show ∀ x ∈ rs.take (k + 1), Ut.isR x = true by
          intro x hx
          rw [List.take_add_one, HRK.out] at hx
          rcases List.mem_append.1 hx with hx | hx
          · exact HIS.out x hx
          · obtain rfl : x = r := by simpa using hx
            exact his)
        clear hmem his
        go_wp2_with (first | (go_at_call 57; with_reducible (refine (HI.out _).mono ?_); rintro e w1 ⟨rfl, rfl⟩) | (go_at_call 58; with_reducible (refine HAP.out.mono ?_); rintro e w3 ⟨v3, rfl, ho3, hb3⟩; have HB3 := Lib.hid hb3; clear hb3))
        go_roundw
        case rel => exact ⟨k + 1, by omega, by go_num, HIS2, by rw [HT.out]; exact ho3.out, HB.out.trans HB3.out⟩
        case measure => simp [RowKit.intOf]; omega
    · have e : k = n := by omega
      subst e
      have hall : ∀ r ∈ rs, Ut.isR r = true := by
        have h := HIS.out
        rwa [HN.out, List.take_length] at h
      have ho := HO.out
      rw [HN.out, List.take_length] at ho
      have hcv := conv_rd (P := Tryd.prog) (Rd.of_own ho) 22 9 5 Tryd.underlying22 Tryd.underlying5 Tryd.underlying9
      have HALL := Lib.hid (List.all_eq_true.2 hall)
      clear hall ho
      go_wp2
      go_ret2
      exact ⟨by rw [if_pos HALL.out]; rfl, HB.out⟩
end Go.Proofs.YtdeihlbnlogjcaaDoor
