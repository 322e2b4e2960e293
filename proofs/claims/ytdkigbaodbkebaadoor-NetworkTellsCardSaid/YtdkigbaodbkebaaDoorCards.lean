/-
  DERIVED. GIVEN WITH THE SEED: THE CARDS: each row of YtdkigbaodbkebaaDoorRows.lean that lists a variable, with what it lists TIED to the program's text (the seventh form; the later family's looks); each row that meets fmt, with fmt's text TOLD by the authors' own Lean function (tested against real Go, not proved from fmt's source: count such statements apart). THE CARD IS WHAT COUNTS. Prove the row's statement (the work); the ties are given (YtdkigbaodbkebaaDoorTie.lean); close each card by the builder's one call (the guide's Derived/Test/ToyasCard.lean, 'card_holds'). Laid BY PROGRAM, IN A SANDBOX (cutbox-door.mjs). By AI agents, Wed Nov 11 2026. No macro, syntax, notation, axiom, sorry.
-/
import Derived.Test.YtdkigbaodbkebaaDoorRows
import GoSem.ClaimSeven
namespace Go.Proofs.YtdkigbaodbkebaaDoor
namespace Rows

/-- THE TIED CARD OF 'primerlaw27.NetworkTells'. -/
def networkTellsCard : Claim7 := { stood := { row := networkTellsRow, standIns := [], harness := (true, "1648fc42f416d63fc2f04f065201ac24f980ee719ca30edf204d55ec227d4b1e"), looks := false }, kinds := [], alts := [], laidByText := true, laidKinds := [.data], laidTests := true, laidLooks := .later }
def NetworkTellsCardSaid : Prop := Claim7.holds Tryd.pinned (.plain (OpenSpec.ofChange networkTellsSpec)) networkTellsCard

/-- THE SECOND FORM's CARD OF 'primerlaw27.NetworkTells'. -/
def networkTellsUptoCard : Claim7 := { stood := { row := networkTellsUptoRow, standIns := [], harness := (true, "1648fc42f416d63fc2f04f065201ac24f980ee719ca30edf204d55ec227d4b1e"), looks := false }, kinds := [], alts := [], laidByText := true, laidKinds := [.data], laidTests := true, laidLooks := .later }
def NetworkTellsUptoCardSaid : Prop := Claim7.holds Tryd.pinned (.plain (OpenSpec.upto networkTellsSpec)) networkTellsUptoCard
end Rows
end Go.Proofs.YtdkigbaodbkebaaDoor
