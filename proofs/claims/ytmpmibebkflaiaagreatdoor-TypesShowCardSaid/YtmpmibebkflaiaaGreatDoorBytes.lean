/- Slices of bytes. -/
import Derived.Test.YtmpmibebkflaiaaGreatDoorMem
import Derived.Laws.BytesArg
import Derived.Laws.IdiomStrings
import Derived.Lib.SlBytesConst
namespace Go.Proofs.YtmpmibebkflaiaaGreatDoor
open Go.RowKit

/-! ### bytes -/
def byteV (b : UInt8) : Value := .int .u8 (b.toNat : Int)
def bytesV (l : List UInt8) : List Value := l.map byteV
theorem bytesV_len (l : List UInt8) : (bytesV l).length = l.length := by simp [bytesV]
theorem bytesV_app (l m : List UInt8) : bytesV l ++ bytesV m = bytesV (l ++ m) := by simp [bytesV]
theorem bytesV_get (l : List UInt8) (j : Nat) (h : j < l.length) : (bytesV l)[j]? = some (.int .u8 (l[j].toNat : Int)) := by
  simp [bytesV, byteV, List.getElem?_eq_getElem h]
theorem bytesV_plain (l : List UInt8) : ∀ u ∈ bytesV l, u.oneCell' = true := by
  intro u hu
  simp only [bytesV, List.mem_map] at hu
  obtain ⟨b, _, rfl⟩ := hu
  rfl
theorem add_off (g o j : Nat) : (⟨g, o, none⟩ : Addr).add j = ⟨g, o + j, none⟩ := by
  unfold Addr.add
  by_cases h : j = 0
  · subst h; simp
  · simp [h]
/-- 'string(b)'. -/
theorem conv_rd {P : Program} {w : World} {B n : Nat} {v : Value} {l : List UInt8} (h : Rd w B 1 v n (bytesV l)) (src dst e : TypeId) (hs : P.underlying src = some (.slice e)) (he : P.underlying e = some (.int .u8)) (hd : P.underlying dst = some .string) :
    (convert src dst v).run P w = .ok (.string ⟨⟨l⟩⟩) w := by
  obtain ⟨hl, A, c, rfl, hc, hr⟩ := h
  rw [bytesV_len, Nat.mul_one] at hl
  subst hl
  rcases Nat.eq_zero_or_pos l.length with h0 | h0
  · have e0 : l = [] := List.eq_nil_of_length_eq_zero h0
    subst e0
    cases A with
    | none => exact run_convert_bytes_nil w src e hs he 0 c dst hd
    | some a => exact run_convert_bytes_back w src dst e a c [] hs he hd (fun j hj => by simp at hj)
  · obtain ⟨g, o, rfl, hg, hr⟩ := hr h0
    refine run_convert_bytes_back w src dst e _ c l hs he hd (fun j hj => ?_)
    rw [add_off, hr j (by omega), bytesV_get l j hj]
/-- the bytes of a literal in a new, marked block. -/
theorem news_mark (W : World) (C : Array Value) (t : TypeId) (fr : Nat × Nat) (news : List Value) (hC : C.toList = news) : ∀ (j : Nat) (u : Value), news[j]? = some u → (W.alloc (.cells C t fr)).cell? ((⟨W.heap.size, 0, none⟩ : Addr).add j) = some u := by
  intro j u hj
  rw [add_off, Nat.zero_add, World.cell?_alloc_mark, ← hj, ← hC]
  simp

/-- '[]byte(s)': a new block, which a draw makes as great as it will. -/
theorem conv_bytes {P : Program} (X : ByteArray) (src dst e : TypeId) (hs : P.underlying src = some .string) (hd : P.underlying dst = some (.slice e)) (he : P.underlying e = some (.int .u8)) :
    ∃ (capF : World → Nat) (objF : World → Obj), (∀ W, (convert src dst (.string X)).run P W = .ok (.slice (some ⟨W.heap.size, 0, none⟩) X.size (capF W)) (W.drew.alloc (objF W))) ∧
      (∀ (W W' : World) (j : Nat) (u : Value), W'.heap = W.heap → (bytesV X.data.toList)[j]? = some u → (W'.alloc (objF W)).cell? ((⟨W.heap.size, 0, none⟩ : Addr).add j) = some u) ∧ (∀ W, X.size ≤ capF W) := by
  refine ⟨fun W => grownCap W X.size 0 e, fun W => .cells (bytesRow X (grownCap W X.size 0 e)) e ((bytesRow X (grownCap W X.size 0 e)).size, (bytesRow X (grownCap W X.size 0 e)).size + 1), fun W => run_bytes_of_string W src dst e X hs hd he, ?_, fun W => grownCap_ge W _ _ _⟩
  intro W W' j u hW hu
  have hsz : W.heap.size = W'.heap.size := by rw [hW]
  rw [add_off, Nat.zero_add, hsz, World.cell?_alloc_mark]
  have hj : j < X.data.toList.length := by
    have := (List.getElem?_eq_some_iff.1 hu).1
    rwa [bytesV_len] at this
  rw [bytesV_get _ _ hj] at hu
  rw [← hu]
  have hj' : j < X.data.size := by simpa using hj
  unfold bytesRow
  rw [Array.getElem?_append_left (by simpa using hj')]
  simp
  exact ⟨X.data[j], Array.getElem?_eq_getElem hj', rfl⟩
end Go.Proofs.YtmpmibebkflaiaaGreatDoor
