/- A decoder's Feed, alive or dead. -/
import Derived.Test.YtphnplpgeoleeaaDoorFraQ
import Derived.Test.YtphnplpgeoleeaaDoorFraP
import Derived.Test.YtphnplpgeoleeaaDoorFraO
namespace Go.Proofs.YtphnplpgeoleeaaDoor
open Go.RowKit Go.Lib Go.Shelf
set_option maxRecDepth 100000
set_option linter.unusedVariables false
set_option linter.unusedSectionVars false

theorem own_form {w : World} {B e size n : Nat} {v : Value} {xs : List Value} (h : w.ownsRow B e size v n xs) : v = .slice none 0 0 ∨ ∃ a c, v = .slice (some a) n c := by
  rcases h.2 with ⟨rfl, _⟩ | ⟨g, cap, cur, rfl, _⟩
  · exact .inl rfl
  · exact .inr ⟨_, _, rfl⟩
theorem own_shape {w : World} {B e size n : Nat} {v : Value} {xs : List Value} (h : w.ownsRow B e size v n xs) : ∃ A c, v = .slice A n c := by
  rcases h.2 with ⟨rfl, rfl⟩ | ⟨g, cap, cur, rfl, _⟩
  · exact ⟨_, _, rfl⟩
  · exact ⟨_, _, rfl⟩
theorem rows_argR {B : Nat} {X : Nat → Prop} {acc : List (List UInt8)} {v : Value} {w : World} (h : Rows B X acc v w) : ArgR w v acc := by
  obtain ⟨vs, h1, -, h3⟩ := h
  refine ⟨vs, Rd.of_own h1, own_form h1, fun i x hi => ?_⟩
  obtain ⟨u, hu, -, ho, -⟩ := h3 i x hi
  exact ⟨u, hu, own_argB ho⟩
theorem rows_nil (B : Nat) (X : Nat → Prop) (w : World) : Rows B X [] (.slice none 0 0) w := ⟨[], World.ownsRow_nil _ _ _ _, fun g h => by simp [Value.ownBlock] at h, fun i x h => by simp at h⟩
/-- a decoder in block D, all of it from block B on: what it holds, what it is dead of. -/
def Dec (w : World) (B D : Nat) (hv : Value) (r : List UInt8) (e : Nat) : Prop := B ≤ D ∧ DecAt w D hv (e : Nat) ∧ w.ownsRow B 5 1 hv r.length (bytesV r)
theorem Dec.keep {w w' : World} {B D : Nat} {hv : Value} {r : List UInt8} {e : Nat} (h : Dec w B D hv r e) (hb : Below w.heap.size w w') : Dec w' B D hv r e := ⟨h.1, h.2.1.keep hb, own_keep h.2.2 hb⟩
theorem dec_new (w : World) (B : Nat) (hB : B ≤ w.heap.size) : Dec (w.alloc (.cells #[.slice none 0 0, .int .i64 0] 51)) B w.heap.size (.slice none 0 0) [] 0 := by
  refine ⟨hB, ?_, World.ownsRow_nil _ _ _ _⟩
  show (w.heap.push _)[w.heap.size]? = _
  simp
/-- what a decoder tells of more bytes, and what it is then. -/
def stepF (r : List UInt8) (e : Nat) (b : List UInt8) : List (List UInt8) × List UInt8 × Nat := if e ≠ 0 then ([], r, e) else feedL (r ++ b)
def FeedQ (w : World) (B D : Nat) (hv : Value) (p : List (List UInt8) × List UInt8 × Nat) (v hv' : Value) (w' : World) : Prop :=
  Dec w' B D hv' p.2.1 p.2.2 ∧ Rows w.heap.size (decX D hv') p.1 v w' ∧ Kx (decX D hv) w w' ∧ Below B w w' ∧ ∀ g, g < w.heap.size → hv'.ownBlock = some g → hv.ownBlock = some g
theorem feed_any (B D : Nat) (hv u : Value) (r b : List UInt8) (e : Nat) (w : World) (hd : Dec w B D hv r e) (hB : B ≤ w.heap.size) (hB0 : 0 < B) (hu : ArgB w u b) (hl : r.length + b.length < 4294967281) (hM : MaxL w) :
    Calls Tryd.prog 14 #[.pointer (some ⟨D, 0, none⟩), u] w fun x w' => ∃ A c hv', x = .returned (.tuple #[.slice A (stepF r e b).1.length c, .int .i64 ((stepF r e b).2.2 : Nat)]) ∧ RowKit.Hid (FeedQ w B D hv (stepF r e b) (.slice A (stepF r e b).1.length c) hv' w') := by
  have hX : ∀ g, decX D hv g → B ≤ g := fun g h => by
    rcases h with rfl | h
    · exact hd.1
    · exact (hd.2.2.lt g h).1
  by_cases he : e = 0
  · subst he
    have hs : stepF r 0 b = feedL (r ++ b) := by unfold stepF; rw [if_neg (by simp)]
    rw [hs]
    refine (feed_live D B hv u r b w hd.2.1 hd.2.2 hB hB0 hd.1 hu (r ++ b) rfl hl hM).mono ?_
    rintro x w' ⟨v', hv', rfl, h1, h2, h3, h4, h5⟩
    obtain ⟨vs, ho, -⟩ := id h3
    obtain ⟨A, c, rfl⟩ := own_shape ho
    exact ⟨A, c, hv', rfl, ⟨hd.1, h1, h2⟩, h3, h4, h4.below hB hX, h5⟩
  · have hs : stepF r e b = ([], r, e) := by unfold stepF; rw [if_pos he]
    rw [hs]
    refine (feed_dead D hv u e w hd.2.1 he).mono ?_
    rintro x w' ⟨rfl, q, rfl⟩
    exact ⟨none, 0, hv, rfl, ⟨hd.1, hd.2.1, hd.2.2⟩, rows_nil _ _ _, ⟨rfl, rfl, rfl, Nat.le_refl _, fun _ _ _ => rfl⟩, below_drewN (Below.refl _ _) q, fun _ _ h => h⟩
theorem new_dec (W : World) : Calls Tryd.prog 12 #[] W fun e w' => e = .returned (.pointer (some ⟨W.heap.size, 0, none⟩)) ∧ RowKit.Hid (Dec w' W.heap.size W.heap.size (.slice none 0 0) [] 0) ∧ RowKit.Hid (Below W.heap.size W w') :=
  (new_any W).mono fun e w' ⟨h1, h2⟩ => ⟨h1, by rw [h2]; exact dec_new W _ (Nat.le_refl _), by rw [h2]; exact (Below.refl _ _).alloc (Nat.le_refl _) _⟩
theorem Dec.form {w : World} {B D : Nat} {hv : Value} {r : List UInt8} {e : Nat} (h : Dec w B D hv r e) : ∃ A c, hv = .slice A r.length c := own_shape h.2.2
/-- bytes typed out. -/
theorem lit_argB (W : World) (C : Array Value) (fr : Nat × Nat) (n c : Nat) (l : List UInt8) (hC : C.toList = bytesV l) (hn : n = l.length) (hc : n ≤ c) : ArgB (W.alloc (.cells C 5 fr)) (.slice (some ⟨W.heap.size, 0, none⟩) n c) l := by
  subst hn
  refine ⟨⟨by rw [bytesV_len, Nat.mul_one], _, _, rfl, hc, fun _ => ⟨_, _, rfl, by simp, fun j hj => ?_⟩⟩, .inr ⟨_, _, rfl⟩⟩
  have h := World.cell?_alloc_mark W C 5 fr j
  rw [Nat.zero_add, h, ← hC]
  simp
end Go.Proofs.YtphnplpgeoleeaaDoor
