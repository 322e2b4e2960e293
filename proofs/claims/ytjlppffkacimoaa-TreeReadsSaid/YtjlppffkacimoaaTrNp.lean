/-
  Layer 14: a grammar's productions.
-/
import Derived.Test.YtjlppffkacimoaaTrNa
namespace Go.Proofs.Ytjlppffkacimoaa.Tr
open Go.RowKit
open Fx (PG PgAt PrdsAt)
theorem prods4 {Q : Nat → Prop} {W : World} {g : PG} {An At_ Ap : Option Addr} {cn ct cp : Nat} (h : PgAt Q W g (.agg #[.int .i64 g.start, .int .i64 g.rules, .slice An g.names.length cn, .slice At_ g.terms.length ct, .slice Ap g.prods.length cp])) : PrdsAt Q W g.prods (.slice Ap g.prods.length cp) := by
  obtain ⟨vn, vt, vp, e, _, _, h4⟩ := h
  simp at e
  obtain ⟨_, _, e3⟩ := e
  rw [e3]
  exact h4
end Go.Proofs.Ytjlppffkacimoaa.Tr
