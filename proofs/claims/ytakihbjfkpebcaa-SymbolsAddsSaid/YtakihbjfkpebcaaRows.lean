/-
  No cell of these rows narrows 'for every input' (looked for: loops, veiled, ifaces, maps, wideKeys, modest, calm, conditions, laid).
  DERIVED. THE GIVEN ROWS OF THIS SEAT. 4 by the template 'for every input the law returns true; each argument reads behind the call as it read before'; 0 by the template 'total and deterministic' (their statements: YtakihbjfkpebcaaTotals.lean).
  GIVEN WITH THE SEED: the statements are not yours to turn. If you find one false, say at which input.
  Laid BY PROGRAM, IN A SANDBOX (cutbox-rows.mjs): the forced cells as the released guide's own fill.sh prints them over the translation 5a5c4a0eb502f9a4… (all of the seat's roots in one cut). By AI agents, Wed Nov 11 2026. No macro, syntax, notation, axiom, sorry.
-/
import Derived.Test.YtakihbjfkpebcaaChecked
import GoSem.Claim
import GoSem.ClaimJoined
import GoSem.ClaimMapViews
import Derived.JoinedTies
import Derived.KernelRfl
namespace Go.Proofs.Ytakihbjfkpebcaa
/- THE CELL 'sum', in the pinned program and in every row, IS THE sha256 OF THE DUMP (.gsa) THAT YtakihbjfkpebcaaProg.lean LOADS. Nothing in Lean hashes anything: it is a label: what it is worth is what the hold of that sum in a sandbox is worth. -/
noncomputable def Try.pinned : Pinned := { name := "ytakihbjfkpebcaa", sum := "5a5c4a0eb502f9a438b6b201c490a737b5ab02b0252fa3f15a7af6df41f1bbe7", checked := Try.checked }
namespace Rows
def none {H : Type} : Left H := { results := [], args := [] }

/-- 'primerlaw07.SymbolsTables': WHATEVER THE INPUT: true; the input reads as it did. -/
def symbolsTablesSpec : ChangeSpec := { name := "symbolsTables", fn := fun _ => fun
  | [d] => { results := [.lit (.bool true)], args := [d] }
  | _ => none }
def symbolsTablesRow : OpenClaim := { program := "ytakihbjfkpebcaa", sum := "5a5c4a0eb502f9a438b6b201c490a737b5ab02b0252fa3f15a7af6df41f1bbe7", func := "primer/primerlaw07.SymbolsTables", spec := "symbolsTables", inPlace := ["internal/bytealg.IndexByteString", "internal/bytealg.IndexString"], unfollowed := true, recurses := true, named := ["internal/bytealg.MaxLen"], apart := false }
def SymbolsTablesSaid : Prop := symbolsTablesRow.holds Try.pinned (OpenSpec.ofChange symbolsTablesSpec)

/-- ITS FALSE NEIGHBOUR: 'it returns false'. Refute it at one input. -/
def symbolsTablesWrong : ChangeSpec := { name := "symbolsTables", fn := fun _ => fun
  | [d] => { results := [.lit (.bool false)], args := [d] }
  | _ => none }
def SymbolsTablesWrongFalsely : Prop := symbolsTablesRow.holds Try.pinned (OpenSpec.ofChange symbolsTablesWrong)

/-- 'primerlaw07.SymbolsProblems': WHATEVER THE INPUT: true; the input reads as it did. -/
def symbolsProblemsSpec : ChangeSpec := { name := "symbolsProblems", fn := fun _ => fun
  | [d] => { results := [.lit (.bool true)], args := [d] }
  | _ => none }
def symbolsProblemsRow : OpenClaim := { program := "ytakihbjfkpebcaa", sum := "5a5c4a0eb502f9a438b6b201c490a737b5ab02b0252fa3f15a7af6df41f1bbe7", func := "primer/primerlaw07.SymbolsProblems", spec := "symbolsProblems", inPlace := ["internal/bytealg.IndexByteString", "internal/bytealg.IndexString"], unfollowed := true, recurses := true, named := ["internal/bytealg.MaxLen"], apart := false }
def SymbolsProblemsSaid : Prop := symbolsProblemsRow.holds Try.pinned (OpenSpec.ofChange symbolsProblemsSpec)

/-- ITS FALSE NEIGHBOUR: 'it returns false'. Refute it at one input. -/
def symbolsProblemsWrong : ChangeSpec := { name := "symbolsProblems", fn := fun _ => fun
  | [d] => { results := [.lit (.bool false)], args := [d] }
  | _ => none }
def SymbolsProblemsWrongFalsely : Prop := symbolsProblemsRow.holds Try.pinned (OpenSpec.ofChange symbolsProblemsWrong)

/-- 'primerlaw07.SymbolsCalls': WHATEVER THE INPUT: true; the input reads as it did. -/
def symbolsCallsSpec : ChangeSpec := { name := "symbolsCalls", fn := fun _ => fun
  | [d] => { results := [.lit (.bool true)], args := [d] }
  | _ => none }
def symbolsCallsRow : OpenClaim := { program := "ytakihbjfkpebcaa", sum := "5a5c4a0eb502f9a438b6b201c490a737b5ab02b0252fa3f15a7af6df41f1bbe7", func := "primer/primerlaw07.SymbolsCalls", spec := "symbolsCalls", inPlace := ["internal/bytealg.IndexByteString", "internal/bytealg.IndexString"], unfollowed := true, recurses := true, named := ["internal/bytealg.MaxLen"], apart := false }
def SymbolsCallsSaid : Prop := symbolsCallsRow.holds Try.pinned (OpenSpec.ofChange symbolsCallsSpec)

/-- ITS FALSE NEIGHBOUR: 'it returns false'. Refute it at one input. -/
def symbolsCallsWrong : ChangeSpec := { name := "symbolsCalls", fn := fun _ => fun
  | [d] => { results := [.lit (.bool false)], args := [d] }
  | _ => none }
def SymbolsCallsWrongFalsely : Prop := symbolsCallsRow.holds Try.pinned (OpenSpec.ofChange symbolsCallsWrong)

/-- 'primerlaw07.SymbolsAdds': WHATEVER THE INPUT: true; the input reads as it did. -/
def symbolsAddsSpec : ChangeSpec := { name := "symbolsAdds", fn := fun _ => fun
  | [d] => { results := [.lit (.bool true)], args := [d] }
  | _ => none }
def symbolsAddsRow : OpenClaim := { program := "ytakihbjfkpebcaa", sum := "5a5c4a0eb502f9a438b6b201c490a737b5ab02b0252fa3f15a7af6df41f1bbe7", func := "primer/primerlaw07.SymbolsAdds", spec := "symbolsAdds", inPlace := ["internal/bytealg.IndexByteString", "internal/bytealg.IndexString"], unfollowed := true, recurses := true, named := ["internal/bytealg.MaxLen"], apart := false }
def SymbolsAddsSaid : Prop := symbolsAddsRow.holds Try.pinned (OpenSpec.ofChange symbolsAddsSpec)

/-- ITS FALSE NEIGHBOUR: 'it returns false'. Refute it at one input. -/
def symbolsAddsWrong : ChangeSpec := { name := "symbolsAdds", fn := fun _ => fun
  | [d] => { results := [.lit (.bool false)], args := [d] }
  | _ => none }
def SymbolsAddsWrongFalsely : Prop := symbolsAddsRow.holds Try.pinned (OpenSpec.ofChange symbolsAddsWrong)

/- THE SECOND FORM. 'bulk': how many values and letters a reading holds, each counted each time it is reached (what is shared counts as often as it is met; a slice's spare places count too). A statement '..UptoSaid' is the law's where the arguments, and the package variables that the reading takes, are together of bulk at most 1048576: NARROWER than '..Said'. Prove '..Said' where nothing that the law and all that it calls make is longer than what came in: it says more and counts as full. Else prove '..UptoSaid'. A law counts once. -/
mutual
def uptoBulk {H : Type} : DataW H → Nat
  | .lit (.string bytes) => bytes.length + 1
  | .lit _ => 1
  | .nil => 1
  | .ptr d => uptoBulk d + 1
  | .slice elems spare => uptoBulkAll elems + uptoBulkAll spare + 1
  | .agg parts => uptoBulkAll parts + 1
  | .iface _ d => uptoBulk d + 1
  | .map entries => uptoBulkEntries entries + 1
  | .held _ => 1
def uptoBulkAll {H : Type} : List (DataW H) → Nat
  | [] => 0
  | d :: r => uptoBulk d + uptoBulkAll r
def uptoBulkEntries {H : Type} : List (Lit × DataW H) → Nat
  | [] => 0
  | x :: r => uptoBulkEntry x + uptoBulkEntries r
def uptoBulkEntry {H : Type} : Lit × DataW H → Nat
  | (.string bytes, d) => bytes.length + uptoBulk d + 1
  | (_, d) => uptoBulk d + 1
 end
def uptoSmall : (H : Type) → List (DataW H) → Bool := fun _ ds => decide (uptoBulkAll ds ≤ 1048576)
def OpenSpec.upto (s : _root_.Go.ChangeSpec) : _root_.Go.OpenSpec := { _root_.Go.OpenSpec.ofChange s with cond := some uptoSmall }

/-- 'primerlaw07.SymbolsTables', WHERE WHAT IT READS IS OF BULK AT MOST 1048576: true; the input reads as it did. -/
def symbolsTablesUptoRow : OpenClaim := { program := "ytakihbjfkpebcaa", sum := "5a5c4a0eb502f9a438b6b201c490a737b5ab02b0252fa3f15a7af6df41f1bbe7", func := "primer/primerlaw07.SymbolsTables", spec := "symbolsTables", inPlace := ["internal/bytealg.IndexByteString", "internal/bytealg.IndexString"], unfollowed := true, recurses := true, named := ["internal/bytealg.MaxLen"], apart := false, narrowed := true }
def SymbolsTablesUptoSaid : Prop := symbolsTablesUptoRow.holds Try.pinned (OpenSpec.upto symbolsTablesSpec)

/-- 'primerlaw07.SymbolsProblems', WHERE WHAT IT READS IS OF BULK AT MOST 1048576: true; the input reads as it did. -/
def symbolsProblemsUptoRow : OpenClaim := { program := "ytakihbjfkpebcaa", sum := "5a5c4a0eb502f9a438b6b201c490a737b5ab02b0252fa3f15a7af6df41f1bbe7", func := "primer/primerlaw07.SymbolsProblems", spec := "symbolsProblems", inPlace := ["internal/bytealg.IndexByteString", "internal/bytealg.IndexString"], unfollowed := true, recurses := true, named := ["internal/bytealg.MaxLen"], apart := false, narrowed := true }
def SymbolsProblemsUptoSaid : Prop := symbolsProblemsUptoRow.holds Try.pinned (OpenSpec.upto symbolsProblemsSpec)

/-- 'primerlaw07.SymbolsCalls', WHERE WHAT IT READS IS OF BULK AT MOST 1048576: true; the input reads as it did. -/
def symbolsCallsUptoRow : OpenClaim := { program := "ytakihbjfkpebcaa", sum := "5a5c4a0eb502f9a438b6b201c490a737b5ab02b0252fa3f15a7af6df41f1bbe7", func := "primer/primerlaw07.SymbolsCalls", spec := "symbolsCalls", inPlace := ["internal/bytealg.IndexByteString", "internal/bytealg.IndexString"], unfollowed := true, recurses := true, named := ["internal/bytealg.MaxLen"], apart := false, narrowed := true }
def SymbolsCallsUptoSaid : Prop := symbolsCallsUptoRow.holds Try.pinned (OpenSpec.upto symbolsCallsSpec)

/-- 'primerlaw07.SymbolsAdds', WHERE WHAT IT READS IS OF BULK AT MOST 1048576: true; the input reads as it did. -/
def symbolsAddsUptoRow : OpenClaim := { program := "ytakihbjfkpebcaa", sum := "5a5c4a0eb502f9a438b6b201c490a737b5ab02b0252fa3f15a7af6df41f1bbe7", func := "primer/primerlaw07.SymbolsAdds", spec := "symbolsAdds", inPlace := ["internal/bytealg.IndexByteString", "internal/bytealg.IndexString"], unfollowed := true, recurses := true, named := ["internal/bytealg.MaxLen"], apart := false, narrowed := true }
def SymbolsAddsUptoSaid : Prop := symbolsAddsUptoRow.holds Try.pinned (OpenSpec.upto symbolsAddsSpec)

end Rows
end Go.Proofs.Ytakihbjfkpebcaa
