/- What came in, with the reach of the form: bytes, rows of bytes. -/
import Derived.Test.YtphnplpgeoleeaaDoorRws
import Derived.Deep.Slices
import Derived.SizedLaws
namespace Go.Proofs.YtphnplpgeoleeaaDoor
open Go.RowKit Go.Lib Go.ChangeShapes Go.WideShapes Go.Deep
set_option maxRecDepth 100000
set_option linter.unusedVariables false
set_option linter.unusedSectionVars false

def ArgBS (w : World) (v : Value) (l : List UInt8) : Prop := ArgB w v l ∧ l.length ≤ 140737488351232
def ArgRS (w : World) (v : Value) (ls : List (List UInt8)) : Prop := ArgR w v ls ∧ ls.length ≤ 140737488351232 ∧ ∀ x ∈ ls, x.length ≤ 140737488351232
section
variable {H : Type} {enc : TypeId × Value → H} {W : World} {base : Nat} {spare : Nat → Bool} {held : Bool}
theorem slice_weight {t e b : Nat} {fuel : Nat} {a : Option Addr} {len cap : Nat} {d : DataW H} {p : List MemPlace} (ht : Tryd.prog.underlying t = some (.slice e)) (hb : Tryd.prog.bytesOf e = b) (hb0 : 0 < b)
    (h : DataW.trod enc Tryd.prog W base spare held fuel t [.slice a len cap] = some (d, p)) (hw : ∀ n ∈ d.weights Tryd.prog t, n ≤ reachBytes) : len ≤ reachBytes := by
  rcases open_slice ht h with ⟨hcs, _⟩ | ⟨ad, len', cap', m, n, D, Pl, hcs, hb', hl, hm, hmm, hx, hi⟩
  · simp at hcs
    omega
  · simp at hcs
    obtain ⟨rfl, rfl, rfl⟩ := hcs
    have hlw := hw ((((List.range len).map D).length + ((List.range (m - len)).map fun j => D (len + j)).length) * b) (by
      rw [(Prod.mk.inj hx).1, ← hb]
      simp only [DataW.weights, ht, List.mem_cons, List.mem_append]
      exact .inl trivial)
    simp only [List.length_map, List.length_range] at hlw
    have : (len + (m - len)) * 1 ≤ (len + (m - len)) * b := Nat.mul_le_mul_left _ hb0
    omega
theorem open_bytesT {fuel : Nat} {a : Option Addr} {len cap : Nat} {d : DataW H} {p : List MemPlace} (hf : DataW.trod enc Tryd.prog W base spare held fuel 27 (Value.slice a len cap).cells.toList = some (d, p)) : ∃ L, ArgB W (.slice a len cap) L := by
  rcases open_ints Tryd.underlying27 Tryd.underlying5 (by kernel_rfl) hf with ⟨hcs, _⟩ | ⟨x, l, c, zs, hcs, _, hl, hm, hz, hx, hcell, hwz⟩
  · simp [Value.cells] at hcs
    obtain ⟨rfl, rfl, rfl⟩ := hcs
    exact ⟨[], Rd.nil _ _ _ _ _, .inl rfl⟩
  · simp [Value.cells] at hcs
    obtain ⟨rfl, rfl, rfl⟩ := hcs
    have hzl : len ≤ zs.length := by rw [hz]; split <;> omega
    have hwf : ∀ n ∈ zs, 0 ≤ n ∧ n < 256 := fun n hn => by
      have := hwz n hn
      simp [Lit.wf] at this
      have h0 : IntKind.u8.min = 0 := rfl
      have h1 : IntKind.u8.max = 255 := rfl
      omega
    refine ⟨(zs.take len).map fun z => z.toNat.toUInt8, ⟨by rw [bytesV_len, Nat.mul_one], some x, cap, by rw [List.length_map, List.length_take, Nat.min_eq_left hzl], by rw [List.length_map, List.length_take]; omega, fun hpos => ?_⟩, .inr ⟨x, cap, by rw [List.length_map, List.length_take, Nat.min_eq_left hzl]⟩⟩
    rw [List.length_map, List.length_take] at hpos
    obtain ⟨b, o, rfl, hc⟩ := ints_at hcell (by omega)
    have hblt : b < W.heap.size := Classical.byContradiction fun h => by
      have h0 := hc 0 (by omega)
      unfold World.cell? at h0
      rw [show (⟨b, o + 0, none⟩ : Addr).block = b from rfl, Array.getElem?_eq_none (by omega)] at h0
      cases h0
    refine ⟨b, o, rfl, hblt, fun j hj => ?_⟩
    rw [List.length_map, List.length_take] at hj
    have hj2 : j < zs.length := by omega
    rw [hc j (by omega)]
    unfold bytesV
    rw [List.getElem?_map, List.getElem?_map, List.getElem?_take, if_pos (by omega), List.getElem?_eq_getElem hj2]
    have h := hwf zs[j] (List.getElem_mem hj2)
    simp [List.getD, List.getElem?_eq_getElem hj2, byteV]
    omega
theorem argB_len {a : Option Addr} {len cap : Nat} {L : List UInt8} (h : ArgB W (.slice a len cap) L) : L.length = len := by
  obtain ⟨⟨_, A, c, e, _⟩, _⟩ := h
  simp only [Value.slice.injEq] at e
  exact e.2.1.symm
theorem open_bytesS {r : Reach} {b0 : Nat} {v : Value} {d : DataW H} {p : List MemPlace} (hv : Value.okWide Tryd.prog W r b0 27 v) (h : DataW.Trod enc Tryd.prog W base spare held 27 v d p) (hw : ∀ n ∈ d.weights Tryd.prog 27, n ≤ reachBytes) : ∃ L, ArgBS W v L := by
  obtain ⟨a, len, cap, rfl⟩ := okWide_slice Tryd.underlying27 hv
  obtain ⟨fuel, hf⟩ := h
  obtain ⟨L, hL⟩ := open_bytesT hf
  have := slice_weight Tryd.underlying27 (b := 1) (by kernel_rfl) (by decide) hf hw
  unfold reachBytes at this
  exact ⟨L, hL, by rw [argB_len hL]; exact this⟩
theorem list_ofR {α : Type} {p : Nat → α → Prop} : ∀ (n : Nat), (∀ i, i < n → ∃ x, p i x) → ∃ l : List α, l.length = n ∧ ∀ (i : Nat) (x : α), l[i]? = some x → p i x
  | 0, _ => ⟨[], rfl, fun i x h => by simp at h⟩
  | n + 1, h => by
    obtain ⟨l, hl, hp⟩ := list_ofR n fun i hi => h i (by omega)
    obtain ⟨x, hx⟩ := h n (by omega)
    refine ⟨l ++ [x], by simp [hl], fun i y hy => ?_⟩
    rcases Nat.lt_or_ge i n with hi | hi
    · rw [List.getElem?_append_left (by omega)] at hy
      exact hp i y hy
    · rw [List.getElem?_append_right (by omega), hl] at hy
      have : i - n = 0 := by
        have := (List.getElem?_eq_some_iff.1 hy).1
        simp at this
        omega
      rw [this] at hy
      simp at hy
      subst hy
      have : i = n := by omega
      subst this
      exact hx
theorem weights_atR {P : Program} {e : TypeId} : ∀ {l : List (DataW H)} {d : DataW H} {n : Nat}, d ∈ l → n ∈ d.weights P e → n ∈ DataW.weightsAll P e l
  | x :: l, d, n, hd, hn => by
    simp only [DataW.weightsAll]
    rcases List.mem_cons.1 hd with rfl | hd
    · exact List.mem_append_left _ hn
    · exact List.mem_append_right _ (weights_atR hd hn)
theorem open_rowsS {r : Reach} {b0 : Nat} {v : Value} {d : DataW H} {p : List MemPlace} (hv : Value.okWide Tryd.prog W r b0 22 v) (h : DataW.Trod enc Tryd.prog W base spare held 22 v d p) (hw : ∀ n ∈ d.weights Tryd.prog 22, n ≤ reachBytes) : ∃ ls, ArgRS W v ls := by
  obtain ⟨a, len, cap, rfl⟩ := okWide_slice Tryd.underlying22 hv
  obtain ⟨fuel, hf⟩ := h
  have hlen := slice_weight Tryd.underlying22 (b := 24) (by kernel_rfl) (by decide) hf hw
  have hc1 : Tryd.prog.cellsOf 27 = 1 := by kernel_rfl
  rcases open_slice Tryd.underlying22 hf with ⟨hcs, _⟩ | ⟨ad, len', cap', m, n, D, Pl, hcs, hb, hl, hm, hmm, hx, hi⟩
  · simp [Value.cells] at hcs
    obtain ⟨rfl, rfl, rfl⟩ := hcs
    exact ⟨[], ArgR.nil _, by simp, fun x h => by simp at h⟩
  · simp [Value.cells] at hcs
    obtain ⟨rfl, rfl, rfl⟩ := hcs
    obtain ⟨us, hul, hus⟩ := list_ofR (p := fun i (x : Value × List UInt8) => W.cell? (ad.add i) = some x.1 ∧ ArgB W x.1 x.2 ∧ x.2.length ≤ 140737488351232) len fun i hil => by
      obtain ⟨cs', hcs', htr⟩ := hi i (by rw [hmm]; split <;> omega)
      rw [hc1] at hcs'
      obtain ⟨_, hcl, hat⟩ := World.cells?_some hcs'
      match cs', hcl with
      | [c], _ =>
        have hform : ∃ a2 l2 c2, c = .slice a2 l2 c2 := by
          rcases open_slice Tryd.underlying27 htr with ⟨hcs2, _⟩ | ⟨ad2, l2, c2, _, _, _, _, hcs2, _⟩
          · simp at hcs2
            exact ⟨_, _, _, hcs2⟩
          · simp at hcs2
            exact ⟨_, _, _, hcs2⟩
        obtain ⟨a2, l2, c2, rfl⟩ := hform
        obtain ⟨L, hL⟩ := open_bytesT (a := a2) (len := l2) (cap := c2) htr
        have hwt := slice_weight Tryd.underlying27 (b := 1) (by kernel_rfl) (by decide) htr (fun n hn => hw n (by
          rw [(Prod.mk.inj hx).1]
          simp only [DataW.weights, Tryd.underlying22, List.mem_cons, List.mem_append]
          exact .inr (.inl (weights_atR (List.mem_map.2 ⟨i, List.mem_range.2 hil, rfl⟩) hn))))
        have h0 := hat 0 (by omega)
        unfold reachBytes at hwt
        exact ⟨(.slice a2 l2 c2, L), by simpa [Addr.add] using h0, hL, by rw [argB_len hL]; exact hwt⟩
    unfold reachBytes at hlen
    have hget : ∀ (i : Nat) x, (us.map (·.2))[i]? = some x → ∃ y, us[i]? = some y ∧ y.2 = x := fun i x h => by
      rw [List.getElem?_map] at h
      obtain ⟨y, hy, hyx⟩ := Option.map_eq_some_iff.1 h
      exact ⟨y, hy, hyx⟩
    refine ⟨us.map (·.2), ⟨us.map (·.1), ⟨by simp, some ad, cap, by rw [List.length_map, hul], by rw [List.length_map, hul]; omega, fun hpos => ?_⟩, .inr ⟨ad, cap, by rw [List.length_map, hul]⟩, fun i x hx2 => ?_⟩, by rw [List.length_map, hul]; exact hlen, fun x hxm => ?_⟩
    · rw [List.length_map] at hpos
      obtain ⟨b, o, s⟩ := ad
      have h0 := (hus 0 us[0] (List.getElem?_eq_getElem hpos)).1
      have hs : s = none := by simpa [Addr.add] using World.cell?_spot h0
      subst hs
      refine ⟨b, o, rfl, ?_, fun j hj => ?_⟩
      · rcases Nat.lt_or_ge b W.heap.size with h | h
        · exact h
        · exfalso
          unfold World.cell? at h0
          rw [show ((⟨b, o, none⟩ : Addr).add 0).block = b from rfl, Array.getElem?_eq_none (by omega)] at h0
          cases h0
      · rw [List.length_map, Nat.mul_one] at hj
        have h1 := (hus j us[j] (List.getElem?_eq_getElem hj)).1
        rw [add_off] at h1
        rw [h1, List.getElem?_map, List.getElem?_eq_getElem hj]
        rfl
    · obtain ⟨y, hy, rfl⟩ := hget i x hx2
      obtain ⟨h1, h2, h3⟩ := hus i y hy
      exact ⟨y.1, by rw [List.getElem?_map, hy]; rfl, h2⟩
    · obtain ⟨y, hy, rfl⟩ := List.mem_map.1 hxm
      obtain ⟨i, hi2, rfl⟩ := List.getElem_of_mem hy
      exact (hus i _ (List.getElem?_eq_getElem hi2)).2.2
end
end Go.Proofs.YtphnplpgeoleeaaDoor
