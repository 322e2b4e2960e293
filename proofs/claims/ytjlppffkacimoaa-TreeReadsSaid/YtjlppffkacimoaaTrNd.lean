/-
  Layer 14: the document's Next, every way.
-/
import Derived.Test.YtjlppffkacimoaaTrNb
import Derived.Test.YtjlppffkacimoaaTrNc
namespace Go.Proofs.Ytjlppffkacimoaa.Tr
open Go.RowKit
open Fx (PG)
theorem next_any (g : PG) (hf : Fit g) (hsd : ∀ n, (sideT g n).length ≤ 1099511627776) : ∀ f, NextCtr g f
  | 0 => by
    intro Q W k An At_ Ap cn ct cp B a nd h1 h2 h3 h4 h hold o
    omega
  | f + 1 => by
    intro Q W k An At_ Ap cn ct cp B a nd h1 h2 h3 h4 h hold o
    rcases Bool.eq_false_or_eq_true o.isSome with ho | ho
    · exact next_some g hf hsd f (next_any g hf hsd f) Q W k An At_ Ap cn ct cp B a nd h1 h2 h3 (by omega) h hold o ho
    · exact next_none g hf hsd f (next_any g hf hsd f) Q W k An At_ Ap cn ct cp B a nd h1 h2 h3 (by omega) h hold o ho
end Go.Proofs.Ytjlppffkacimoaa.Tr
