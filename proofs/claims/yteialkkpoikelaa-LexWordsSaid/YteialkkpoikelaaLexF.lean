/- What the lexer computes, as plain functions on lists of bytes. -/
namespace Go.Proofs.Yteialkkpoikelaa
namespace Lx

def isSmall (c : UInt8) : Bool := decide (97 ≤ c.toNat ∧ c.toNat ≤ 122)
def isGreat (c : UInt8) : Bool := decide (65 ≤ c.toNat ∧ c.toNat ≤ 90)
def isDigit (c : UInt8) : Bool := decide (48 ≤ c.toNat ∧ c.toNat ≤ 57)
def isWhite (c : UInt8) : Bool := decide (c.toNat = 32 ∨ c.toNat = 9 ∨ c.toNat = 10 ∨ c.toNat = 13)
def isLetter (c : UInt8) : Bool := isSmall c || isGreat c || isDigit c || decide (c.toNat = 95)
/-- letters, digits, '_', and the bytes of m. -/
def nameCh (m : List UInt8) (c : UInt8) : Bool := isLetter c || m.contains c
def runN (m : List UInt8) (l : List UInt8) : Nat := (l.takeWhile (nameCh m)).length
def digN (l : List UInt8) : Nat := (l.takeWhile isDigit).length
def isTick : List UInt8 → Bool
  | a :: b :: _ => decide (a.toNat = 39) && isSmall b
  | _ => false
def ones : List UInt8 := [40, 41, 44, 124, 61, 60, 43, 45, 42, 95]
def twoSign (a b : UInt8) : Bool := (a == 45 && b == 62) || (a == 58 && b == 58) || (a == 59 && b == 59)
def signN : List UInt8 → Nat
  | [] => 0
  | [a] => if ones.contains a then 1 else 0
  | a :: b :: _ => if twoSign a b then 2 else if ones.contains a then 1 else 0
def begins : List UInt8 → Bool
  | [] => false
  | c :: t => isWhite c || isSmall c || isGreat c || isDigit c || isTick (c :: t) || decide (0 < signN (c :: t))
/-- how many bytes of an error stand behind its first one. -/
def errN : List UInt8 → Nat
  | [] => 0
  | c :: t => if begins (c :: t) then 0 else errN t + 1
def keys : List (List UInt8) := [[108,101,116],[114,101,99],[105,110],[102,117,110],[105,102],[116,104,101,110],[101,108,115,101],[109,97,116,99,104],[119,105,116,104],[116,121,112,101],[111,102],[116,114,117,101],[102,97,108,115,101]]
def nameKind (w : List UInt8) : Nat := if w == [95] then 6 else if keys.contains w then 5 else 1
/-- the kind and the length of the token at a list's beginning. -/
def tokF : List UInt8 → Nat × Nat
  | [] => (7, 1)
  | c :: t =>
    if isSmall c || decide (c.toNat = 95) then (nameKind ((c :: t).take (runN [39] (c :: t))), runN [39] (c :: t))
    else if isGreat c then (2, runN [39] (c :: t))
    else if isDigit c then (3, digN t + 1)
    else if isTick (c :: t) then (4, runN [] t + 1)
    else if 0 < signN (c :: t) then (6, signN (c :: t))
    else (7, errN t + 1)
/-- how many bytes the rest of a remark has, so many remarks being open. -/
def remN : Nat → List UInt8 → Option Nat
  | d, a :: b :: t =>
    if a.toNat = 40 ∧ b.toNat = 42 then (remN (d + 1) t).map (· + 2)
    else if a.toNat = 42 ∧ b.toNat = 41 then (if d = 1 then some 2 else (remN (d - 1) t).map (· + 2))
    else (remN d (b :: t)).map (· + 1)
  | _, _ => none
def opens : List UInt8 → Bool
  | a :: b :: _ => decide (a.toNat = 40 ∧ b.toNat = 42)
  | _ => false
/-- does a list begin with another one? -/
def preB (p l : List UInt8) : Bool := p.isPrefixOf l
structure Tok where
  kind : Nat
  a : Nat
  b : Nat
deriving DecidableEq, Repr
/-- the tokens of a list of bytes of which the first one is byte p. -/
def lexN : Nat → Nat → List UInt8 → List Tok
  | 0, _, _ => []
  | _ + 1, _, [] => []
  | f + 1, p, c :: t =>
    if isWhite c then lexN f (p + 1) t
    else if opens (c :: t) then
      match remN 0 (c :: t) with
      | none => [⟨7, p, p + (c :: t).length⟩]
      | some n => lexN f (p + n) ((c :: t).drop n)
    else ⟨(tokF (c :: t)).1, p, p + (tokF (c :: t)).2⟩ :: lexN f (p + (tokF (c :: t)).2) ((c :: t).drop (tokF (c :: t)).2)
def lexF (l : List UInt8) : List Tok := lexN (l.length + 1) 0 l
end Lx
end Go.Proofs.Yteialkkpoikelaa
