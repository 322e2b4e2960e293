/-
  The parser's functions call one another: the knot.
-/
import Derived.Test.YtakihbjfkpebcaaSxRow
namespace Go.Proofs.Ytakihbjfkpebcaa.Sx
open Go.RowKit
open Lx (Tk Toks)
set_option maxRecDepth 100000

/-- alternation, row, item, atom are the plain ones, at every fuel. -/
theorem knot (ts : List Tk) (hE : Ended ts) (hn : ts.length ≤ 65537) : ∀ f : Nat,
    Ctr 88 ts (pAlt ts f) ∧ Ctr 97 ts (pRow ts f) ∧ Ctr 103 ts (pItem ts f) ∧ Ctr 105 ts (pAtom ts f) := by
  intro f
  induction f using Nat.strongRecOn with
  | ind f ih =>
    cases f with
    | zero =>
      refine ⟨?_, ?_, ?_, ?_⟩
      · intro W g r cap i d R hp hi hd hR; rw [pAlt] at hR; cases hR
      · intro W g r cap i d R hp hi hd hR; rw [pRow] at hR; cases hR
      · intro W g r cap i d R hp hi hd hR; rw [pItem] at hR; cases hR
      · intro W g r cap i d R hp hi hd hR; rw [pAtom] at hR; cases hR
    | succ f =>
      exact ⟨alt_any ts hE hn f fun f' h => (ih f' (by omega)).2.1, row_any ts hE hn f fun f' h => (ih f' (by omega)).2.2.1, item_any ts hE hn f (ih f (by omega)).2.2.2,
        atom_any ts hE hn f (brk_any ts hE hn f (ih f (by omega)).1)⟩

end Go.Proofs.Ytakihbjfkpebcaa.Sx
