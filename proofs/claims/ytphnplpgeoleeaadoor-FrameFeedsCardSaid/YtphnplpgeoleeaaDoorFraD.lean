/- frame, plain maths: what a head says. -/
import Derived.Test.YtphnplpgeoleeaaDoorFraA
import Derived.Lib.IndexMore
import Derived.Lib.SlTrimSet
import Derived.Lib.Fold
namespace Go.Proofs.YtphnplpgeoleeaaDoor
open Go.RowKit Go.Lib
set_option maxRecDepth 100000
set_option linter.unusedVariables false

def nl : List UInt8 := [13, 10]
def nl2 : List UInt8 := [13, 10, 13, 10]
def noLB (c : UInt8) : Bool := decide (c ≠ 13) && decide (c ≠ 10)
def clName : List UInt8 := [99, 111, 110, 116, 101, 110, 116, 45, 108, 101, 110, 103, 116, 104]
/-- the lines of a head, up to the empty one. -/
def linesN : Nat → List UInt8 → List (List UInt8)
  | 0, _ => []
  | f + 1, l => if (Lib.cut l nl).1 = [] then [] else (Lib.cut l nl).1 :: linesN f (Lib.cut l nl).2.1
def linesF (l : List UInt8) : List (List UInt8) := linesN l.length l
/-- what a line tells: none: it is no field; some none: no length. -/
def fieldF (l : List UInt8) : Option (Option Nat) :=
  if (Lib.cut l [58]).2.2 = true ∧ nameF (Lib.cut l [58]).1 = true ∧ (Lib.cut l [58]).2.1.all noLB = true then
    (if Lib.equalFold (Lib.cut l [58]).1 clName = true then
      (match digF (Lib.trimS (Lib.cut l [58]).2.1 [32, 9]) with
       | none => none
       | some n => some (some n))
     else some none)
  else none
def bodyF : List (List UInt8) → Nat → Nat → Option (Nat × Nat)
  | [], s, f => some (s, f)
  | l :: r, s, f => match fieldF l with
    | none => none
    | some none => bodyF r s f
    | some (some n) => bodyF r n (f + 1)
theorem bodyF_append (a b : List (List UInt8)) : ∀ s f, bodyF (a ++ b) s f = match bodyF a s f with | none => none | some (s', f') => bodyF b s' f' := by
  induction a with
  | nil => intro s f; rfl
  | cons l r ih =>
    intro s f
    show (match fieldF l with | none => none | some none => bodyF (r ++ b) s f | some (some n) => bodyF (r ++ b) n (f + 1)) = _
    rw [bodyF]
    split
    · rfl
    · exact ih _ _
    · exact ih _ _
theorem bodyF_none {a : List (List UInt8)} {s f : Nat} (h : bodyF a s f = none) (b : List (List UInt8)) : bodyF (a ++ b) s f = none := by rw [bodyF_append, h]
theorem bodyF_snoc {a : List (List UInt8)} {s f s' f' : Nat} (h : bodyF a s f = some (s', f')) (l : List UInt8) : bodyF (a ++ [l]) s f = match fieldF l with | none => none | some none => some (s', f') | some (some n) => some (n, f' + 1) := by
  rw [bodyF_append, h]
  show bodyF [l] s' f' = _
  rw [bodyF]
  split <;> rfl
/-- the length that a head tells. -/
def sizeF (h : List UInt8) : Option Nat :=
  match bodyF (linesF h) 0 0 with
  | some (s, 1) => some s
  | _ => none
theorem cut_len (l sep : List UInt8) : (Lib.cut l sep).1.length ≤ l.length ∧ (Lib.cut l sep).2.1.length ≤ l.length := by
  unfold Lib.cut
  split
  · simp
    omega
  · simp
theorem cut_rest (l : List UInt8) (h : (Lib.cut l nl).1 ≠ []) : (Lib.cut l nl).2.1.length + 1 ≤ l.length := by
  unfold Lib.cut at *
  split at h
  · rename_i hc
    rw [if_pos hc]
    have h1 := Lib.index_room l nl hc
    have h2 : nl.length = 2 := rfl
    simp only [List.length_drop]
    omega
  · rename_i hc
    rw [if_neg hc]
    show 0 + 1 ≤ l.length
    cases l with
    | nil => exact absurd rfl h
    | cons a l => simp
theorem digF_le {l : List UInt8} {n : Nat} (h : digF l = some n) : n ≤ 999999 := by
  unfold digF at h
  split at h
  · rename_i hc
    have h1 := digN_le l hc.2.2
    have h3 : 10 ^ l.length ≤ 10 ^ 6 := Nat.pow_le_pow_right (by omega) hc.2.1
    have h4 : 10 ^ 6 = 1000000 := rfl
    have h5 : digN 0 l = n := by simpa using h
    omega
  · cases h
theorem fieldF_le {l : List UInt8} {n : Nat} (h : fieldF l = some (some n)) : n ≤ 999999 := by
  unfold fieldF at h
  split at h
  · split at h
    · split at h
      · cases h
      · rename_i hd
        simp at h
        subst h
        exact digF_le hd
    · cases h
  · cases h
theorem name_ascii {c : UInt8} (h : nameC c = true) : c.toNat < 128 := by
  have h1 : ∀ n : Fin 256, nameC (UInt8.ofNat n.val) = true → n.val < 128 := by decide +kernel
  have h2 := h1 ⟨c.toNat, c.toNat_lt⟩
  simp only [UInt8.ofNat_toNat] at h2
  exact h2 h
theorem nameF_ascii {l : List UInt8} (h : nameF l = true) : ∀ (j : Nat) b, l[j]? = some b → b.toNat < 128 := by
  intro j b hb
  unfold nameF at h
  rw [Bool.and_eq_true] at h
  exact name_ascii (List.all_eq_true.1 h.2 b (List.mem_of_getElem? hb))
end Go.Proofs.YtphnplpgeoleeaaDoor
