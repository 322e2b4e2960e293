/-
  No cell of these rows narrows 'for every input' (looked for: loops, veiled, ifaces, maps, wideKeys, modest, calm, conditions, laid).
  DERIVED. THE GIVEN ROWS OF THIS SEAT. 5 by the template 'for every input the law returns true; each argument reads behind the call as it read before'; 0 by the template 'total and deterministic' (their statements: YtlkijnglpllcdaaTotals.lean).
  GIVEN WITH THE SEED: the statements are not yours to turn. If you find one false, say at which input.
  Laid BY PROGRAM, IN A SANDBOX (cutbox-rows.mjs): the forced cells as the released guide's own fill.sh prints them over the translation 40a05e2cb8db6b30… (all of the seat's roots in one cut). By AI agents, Wed Nov 11 2026. No macro, syntax, notation, axiom, sorry.
-/
import Derived.Test.YtlkijnglpllcdaaChecked
import GoSem.Claim
import GoSem.ClaimJoined
import GoSem.ClaimMapViews
import Derived.JoinedTies
import Derived.KernelRfl
namespace Go.Proofs.Ytlkijnglpllcdaa
/- THE CELL 'sum', in the pinned program and in every row, IS THE sha256 OF THE DUMP (.gsa) THAT YtlkijnglpllcdaaProg.lean LOADS. Nothing in Lean hashes anything: it is a label: what it is worth is what the hold of that sum in a sandbox is worth. -/
noncomputable def Try.pinned : Pinned := { name := "ytlkijnglpllcdaa", sum := "40a05e2cb8db6b3097413078625cbc969297b0e7e91befea0d55cab824c93f2f", checked := Try.checked }
namespace Rows
def none {H : Type} : Left H := { results := [], args := [] }

/-- 'primerlaw09.FactsWords': WHATEVER THE INPUT: true; the input reads as it did. -/
def factsWordsSpec : ChangeSpec := { name := "factsWords", fn := fun _ => fun
  | [d] => { results := [.lit (.bool true)], args := [d] }
  | _ => none }
def factsWordsRow : OpenClaim := { program := "ytlkijnglpllcdaa", sum := "40a05e2cb8db6b3097413078625cbc969297b0e7e91befea0d55cab824c93f2f", func := "primer/primerlaw09.FactsWords", spec := "factsWords", unfollowed := true, recurses := true, apart := false }
def FactsWordsSaid : Prop := factsWordsRow.holds Try.pinned (OpenSpec.ofChange factsWordsSpec)

/-- ITS FALSE NEIGHBOUR: 'it returns false'. Refute it at one input. -/
def factsWordsWrong : ChangeSpec := { name := "factsWords", fn := fun _ => fun
  | [d] => { results := [.lit (.bool false)], args := [d] }
  | _ => none }
def FactsWordsWrongFalsely : Prop := factsWordsRow.holds Try.pinned (OpenSpec.ofChange factsWordsWrong)

/-- 'primerlaw09.FactsWays': WHATEVER THE INPUT: true; the input reads as it did. -/
def factsWaysSpec : ChangeSpec := { name := "factsWays", fn := fun _ => fun
  | [d] => { results := [.lit (.bool true)], args := [d] }
  | _ => none }
def factsWaysRow : OpenClaim := { program := "ytlkijnglpllcdaa", sum := "40a05e2cb8db6b3097413078625cbc969297b0e7e91befea0d55cab824c93f2f", func := "primer/primerlaw09.FactsWays", spec := "factsWays", unfollowed := true, recurses := true, apart := false }
def FactsWaysSaid : Prop := factsWaysRow.holds Try.pinned (OpenSpec.ofChange factsWaysSpec)

/-- ITS FALSE NEIGHBOUR: 'it returns false'. Refute it at one input. -/
def factsWaysWrong : ChangeSpec := { name := "factsWays", fn := fun _ => fun
  | [d] => { results := [.lit (.bool false)], args := [d] }
  | _ => none }
def FactsWaysWrongFalsely : Prop := factsWaysRow.holds Try.pinned (OpenSpec.ofChange factsWaysWrong)

/-- 'primerlaw09.FactsFit': WHATEVER THE INPUT: true; the input reads as it did. -/
def factsFitSpec : ChangeSpec := { name := "factsFit", fn := fun _ => fun
  | [d] => { results := [.lit (.bool true)], args := [d] }
  | _ => none }
def factsFitRow : OpenClaim := { program := "ytlkijnglpllcdaa", sum := "40a05e2cb8db6b3097413078625cbc969297b0e7e91befea0d55cab824c93f2f", func := "primer/primerlaw09.FactsFit", spec := "factsFit", unfollowed := true, recurses := true, apart := false }
def FactsFitSaid : Prop := factsFitRow.holds Try.pinned (OpenSpec.ofChange factsFitSpec)

/-- ITS FALSE NEIGHBOUR: 'it returns false'. Refute it at one input. -/
def factsFitWrong : ChangeSpec := { name := "factsFit", fn := fun _ => fun
  | [d] => { results := [.lit (.bool false)], args := [d] }
  | _ => none }
def FactsFitWrongFalsely : Prop := factsFitRow.holds Try.pinned (OpenSpec.ofChange factsFitWrong)

/-- 'primerlaw09.FactsUnsound': WHATEVER THE INPUT: true; the input reads as it did. -/
def factsUnsoundSpec : ChangeSpec := { name := "factsUnsound", fn := fun _ => fun
  | [d1, d2] => { results := [.lit (.bool true)], args := [d1, d2] }
  | _ => none }
def factsUnsoundRow : OpenClaim := { program := "ytlkijnglpllcdaa", sum := "40a05e2cb8db6b3097413078625cbc969297b0e7e91befea0d55cab824c93f2f", func := "primer/primerlaw09.FactsUnsound", spec := "factsUnsound", unfollowed := true, recurses := true, apart := false }
def FactsUnsoundSaid : Prop := factsUnsoundRow.holds Try.pinned (OpenSpec.ofChange factsUnsoundSpec)

/-- ITS FALSE NEIGHBOUR: 'it returns false'. Refute it at one input. -/
def factsUnsoundWrong : ChangeSpec := { name := "factsUnsound", fn := fun _ => fun
  | [d1, d2] => { results := [.lit (.bool false)], args := [d1, d2] }
  | _ => none }
def FactsUnsoundWrongFalsely : Prop := factsUnsoundRow.holds Try.pinned (OpenSpec.ofChange factsUnsoundWrong)

/-- 'primerlaw09.FactsLong': WHATEVER THE INPUT: true; the input reads as it did. -/
def factsLongSpec : ChangeSpec := { name := "factsLong", fn := fun _ => fun
  | [d] => { results := [.lit (.bool true)], args := [d] }
  | _ => none }
def factsLongRow : OpenClaim := { program := "ytlkijnglpllcdaa", sum := "40a05e2cb8db6b3097413078625cbc969297b0e7e91befea0d55cab824c93f2f", func := "primer/primerlaw09.FactsLong", spec := "factsLong", unfollowed := true, recurses := true, apart := false }
def FactsLongSaid : Prop := factsLongRow.holds Try.pinned (OpenSpec.ofChange factsLongSpec)

/-- ITS FALSE NEIGHBOUR: 'it returns false'. Refute it at one input. -/
def factsLongWrong : ChangeSpec := { name := "factsLong", fn := fun _ => fun
  | [d] => { results := [.lit (.bool false)], args := [d] }
  | _ => none }
def FactsLongWrongFalsely : Prop := factsLongRow.holds Try.pinned (OpenSpec.ofChange factsLongWrong)

/- THE SECOND FORM. 'bulk': how many values and letters a reading holds, each counted each time it is reached (what is shared counts as often as it is met; a slice's spare places count too). A statement '..UptoSaid' is the law's where the arguments, and the package variables that the reading takes, are together of bulk at most 1048576: NARROWER than '..Said'. Prove '..Said' where nothing that the law and all that it calls make is longer than what came in: it says more and counts as full. Else prove '..UptoSaid'. A law counts once. -/
mutual
def uptoBulk {H : Type} : DataW H → Nat
  | .lit (.string bytes) => bytes.length + 1
  | .lit _ => 1
  | .nil => 1
  | .ptr d => uptoBulk d + 1
  | .slice elems spare => uptoBulkAll elems + uptoBulkAll spare + 1
  | .agg parts => uptoBulkAll parts + 1
  | .iface _ d => uptoBulk d + 1
  | .map entries => uptoBulkEntries entries + 1
  | .held _ => 1
def uptoBulkAll {H : Type} : List (DataW H) → Nat
  | [] => 0
  | d :: r => uptoBulk d + uptoBulkAll r
def uptoBulkEntries {H : Type} : List (Lit × DataW H) → Nat
  | [] => 0
  | x :: r => uptoBulkEntry x + uptoBulkEntries r
def uptoBulkEntry {H : Type} : Lit × DataW H → Nat
  | (.string bytes, d) => bytes.length + uptoBulk d + 1
  | (_, d) => uptoBulk d + 1
 end
def uptoSmall : (H : Type) → List (DataW H) → Bool := fun _ ds => decide (uptoBulkAll ds ≤ 1048576)
def OpenSpec.upto (s : _root_.Go.ChangeSpec) : _root_.Go.OpenSpec := { _root_.Go.OpenSpec.ofChange s with cond := some uptoSmall }

/-- 'primerlaw09.FactsWords', WHERE WHAT IT READS IS OF BULK AT MOST 1048576: true; the input reads as it did. -/
def factsWordsUptoRow : OpenClaim := { program := "ytlkijnglpllcdaa", sum := "40a05e2cb8db6b3097413078625cbc969297b0e7e91befea0d55cab824c93f2f", func := "primer/primerlaw09.FactsWords", spec := "factsWords", unfollowed := true, recurses := true, apart := false, narrowed := true }
def FactsWordsUptoSaid : Prop := factsWordsUptoRow.holds Try.pinned (OpenSpec.upto factsWordsSpec)

/-- 'primerlaw09.FactsWays', WHERE WHAT IT READS IS OF BULK AT MOST 1048576: true; the input reads as it did. -/
def factsWaysUptoRow : OpenClaim := { program := "ytlkijnglpllcdaa", sum := "40a05e2cb8db6b3097413078625cbc969297b0e7e91befea0d55cab824c93f2f", func := "primer/primerlaw09.FactsWays", spec := "factsWays", unfollowed := true, recurses := true, apart := false, narrowed := true }
def FactsWaysUptoSaid : Prop := factsWaysUptoRow.holds Try.pinned (OpenSpec.upto factsWaysSpec)

/-- 'primerlaw09.FactsFit', WHERE WHAT IT READS IS OF BULK AT MOST 1048576: true; the input reads as it did. -/
def factsFitUptoRow : OpenClaim := { program := "ytlkijnglpllcdaa", sum := "40a05e2cb8db6b3097413078625cbc969297b0e7e91befea0d55cab824c93f2f", func := "primer/primerlaw09.FactsFit", spec := "factsFit", unfollowed := true, recurses := true, apart := false, narrowed := true }
def FactsFitUptoSaid : Prop := factsFitUptoRow.holds Try.pinned (OpenSpec.upto factsFitSpec)

/-- 'primerlaw09.FactsUnsound', WHERE WHAT IT READS IS OF BULK AT MOST 1048576: true; the input reads as it did. -/
def factsUnsoundUptoRow : OpenClaim := { program := "ytlkijnglpllcdaa", sum := "40a05e2cb8db6b3097413078625cbc969297b0e7e91befea0d55cab824c93f2f", func := "primer/primerlaw09.FactsUnsound", spec := "factsUnsound", unfollowed := true, recurses := true, apart := false, narrowed := true }
def FactsUnsoundUptoSaid : Prop := factsUnsoundUptoRow.holds Try.pinned (OpenSpec.upto factsUnsoundSpec)

/-- 'primerlaw09.FactsLong', WHERE WHAT IT READS IS OF BULK AT MOST 1048576: true; the input reads as it did. -/
def factsLongUptoRow : OpenClaim := { program := "ytlkijnglpllcdaa", sum := "40a05e2cb8db6b3097413078625cbc969297b0e7e91befea0d55cab824c93f2f", func := "primer/primerlaw09.FactsLong", spec := "factsLong", unfollowed := true, recurses := true, apart := false, narrowed := true }
def FactsLongUptoSaid : Prop := factsLongUptoRow.holds Try.pinned (OpenSpec.upto factsLongSpec)

end Rows
end Go.Proofs.Ytlkijnglpllcdaa
