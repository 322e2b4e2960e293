/-
  Layer 5 in plain words: grammars of a list of tokens.
-/
import Derived.Test.YtakihbjfkpebcaaLxScan2
namespace Go.Proofs.Ytakihbjfkpebcaa.Sx
open Lx (Tk)
set_option maxRecDepth 100000
variable {α β : Type}

/-- A node. -/
inductive Tree where
  | node (kind : Nat) (text : List UInt8) (kids : List Tree)
def Tree.kind : Tree → Nat | .node k _ _ => k
def Tree.text : Tree → List UInt8 | .node _ t _ => t
def Tree.kids : Tree → List Tree | .node _ _ k => k

def tkEnd : Tk := ⟨4, [], 0, 0⟩
/-- Token i. -/
def tkAt (ts : List Tk) (i : Nat) : Tk := ts.getD i tkEnd
def isSg (ts : List Tk) (i : Nat) (c : UInt8) : Bool := decide ((tkAt ts i).kind = 3) && decide ((tkAt ts i).text = [c])
/-- A fault at token i; or a value and how far it is. -/
inductive Res (α : Type) where
  | no (line col code : Nat)
  | ok (v : α) (at_ : Nat)
def Res.bad (ts : List Tk) (i code : Nat) : Res α := .no (tkAt ts i).line (tkAt ts i).col code
def Res.bind (x : Res α) (f : α → Nat → Option (Res β)) : Option (Res β) :=
  match x with
  | .no l c e => some (.no l c e)
  | .ok v i => f v i
/-- Going on behind token i. -/
def tak (ts : List Tk) (i : Nat) : Res Unit := if i + 1 = 4096 ∧ (tkAt ts (i + 1)).kind ≠ 4 then .bad ts (i + 1) 6 else .ok () (i + 1)
def need (ts : List Tk) (i : Nat) (c : UInt8) : Res Unit := if isSg ts i c = true then tak ts i else .bad ts i 2
def nam (ts : List Tk) (i : Nat) : Res (List UInt8) := if (tkAt ts i).kind = 1 then (match tak ts i with | .no l c e => .no l c e | .ok _ j => .ok (tkAt ts i).text j) else .bad ts i 2
/-- What closes the bracket that token i opens. -/
def clos (ts : List Tk) (i : Nat) : Option UInt8 := if isSg ts i 40 = true then some 41 else if isSg ts i 91 = true then some 93 else if isSg ts i 123 = true then some 125 else none
def starts (ts : List Tk) (i : Nat) : Bool := decide ((tkAt ts i).kind = 1) || decide ((tkAt ts i).kind = 2) || (clos ts i).isSome
def joined (k : Nat) : List Tree → Tree
  | [t] => t
  | l => .node k [] l
def around (k : Nat) (t : Tree) : Tree := .node k [] [t]
def wrapped (c : UInt8) (t : Tree) : Tree := if c = 93 then around 5 t else if c = 125 then around 6 t else t

mutual
def pAlt (ts : List Tk) : Nat → Nat → Nat → Option (Res Tree)
  | 0, _, _ => none
  | f + 1, d, i => (pRow ts f d i).bind fun r => r.bind fun t j => pMore ts f d j [t]
def pMore (ts : List Tk) : Nat → Nat → Nat → List Tree → Option (Res Tree)
  | 0, _, _, _ => none
  | f + 1, d, i, acc => if isSg ts i 124 = true then (tak ts i).bind fun _ j => (pRow ts f d j).bind fun r => r.bind fun t k => pMore ts f d k (acc ++ [t]) else some (.ok (joined 4 acc) i)
def pRow (ts : List Tk) : Nat → Nat → Nat → Option (Res Tree)
  | 0, _, _ => none
  | f + 1, d, i => pItems ts f d i []
def pItems (ts : List Tk) : Nat → Nat → Nat → List Tree → Option (Res Tree)
  | 0, _, _, _ => none
  | f + 1, d, i, acc => if starts ts i = true then (pItem ts f d i).bind fun r => r.bind fun t j => pItems ts f d j (acc ++ [t]) else some (.ok (joined 3 acc) i)
def pItem (ts : List Tk) : Nat → Nat → Nat → Option (Res Tree)
  | 0, _, _ => none
  | f + 1, d, i => (pAtom ts f d i).bind fun r => r.bind fun t j =>
    if isSg ts j 42 = true then (tak ts j).bind fun _ k => some (.ok (around 6 t) k)
    else if isSg ts j 43 = true then (tak ts j).bind fun _ k => some (.ok (around 7 t) k)
    else if isSg ts j 63 = true then (tak ts j).bind fun _ k => some (.ok (around 5 t) k)
    else some (.ok t j)
def pAtom (ts : List Tk) : Nat → Nat → Nat → Option (Res Tree)
  | 0, _, _ => none
  | f + 1, d, i =>
    if (tkAt ts i).kind = 1 then (tak ts i).bind fun _ j => some (.ok (.node 1 (tkAt ts i).text []) j)
    else if (tkAt ts i).kind = 2 then (tak ts i).bind fun _ j => some (.ok (.node 2 (tkAt ts i).text []) j)
    else match clos ts i with
      | none => none
      | some c => if d = 16 then some (.bad ts i 11) else (tak ts i).bind fun _ j => (pAlt ts f (d + 1) j).bind fun r => r.bind fun t k => (need ts k c).bind fun _ m => some (.ok (wrapped c t) m)
end

/-- A rule; a grammar: its start, its rules. -/
def pRule (ts : List Tk) (f : Nat) (i : Nat) : Option (Res (List UInt8 × Tree)) :=
  (nam ts i).bind fun n j => (need ts j 58).bind fun _ k => (pAlt ts f 0 k).bind fun r => r.bind fun t m => (need ts m 59).bind fun _ o => some (.ok (n, t) o)
def pRules (ts : List Tk) : Nat → Nat → List (List UInt8 × Tree) → Option (Res (List (List UInt8 × Tree)))
  | 0, _, _ => none
  | f + 1, i, acc =>
    if acc.length = 0 ∨ (tkAt ts i).kind ≠ 4 then
      if acc.length = 64 ∧ (tkAt ts i).kind = 1 then some (.bad ts i 6)
      else (pRule ts f i).bind fun r => r.bind fun v j => pRules ts f j (acc ++ [v])
    else some (.ok acc i)
structure Gram where
  start : List UInt8
  rules : List (List UInt8 × Tree)
def pGram (ts : List Tk) (f : Nat) : Option (Res Gram) :=
  if isSg ts 0 37 = true then
    (tak ts 0).bind fun _ i => (nam ts i).bind fun n j => (need ts j 59).bind fun _ k => (pRules ts f k []).bind fun r => r.bind fun rs m => some (.ok (Gram.mk n rs) m)
  else (pRules ts f 0 []).bind fun r => r.bind fun rs m => some (.ok (Gram.mk (rs.headD ([], .node 0 [] [])).1 rs) m)

end Go.Proofs.Ytakihbjfkpebcaa.Sx
