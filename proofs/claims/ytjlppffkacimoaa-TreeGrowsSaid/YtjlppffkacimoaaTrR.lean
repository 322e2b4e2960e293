/-
  Layer 14: the symbols of a replay, in memory.
-/
import Derived.Test.YtjlppffkacimoaaTrP
import Derived.WalkSmall
import Derived.Deep.AppendLies
namespace Go.Proofs.Ytjlppffkacimoaa.Tr
open Go.RowKit
open Gn (Asks)
open Fx (IntsAt StrsAt Prd PG PrdsAt PgAt PgBox own_of_block own_base)
set_option maxRecDepth 100000
set_option linter.unusedSimpArgs false
set_option linter.unusedVariables false

/-- The box b holds the symbols: A ahead, B behind, turned round; all lies at lo or later. -/
structure SyAt (lo b : Nat) (A B : List Int) (va vb : Value) (W : World) : Prop where
  box : W.heap[b]? = some (.cells #[va, vb] 110 (0, 0))
  ahead : W.ownsRow lo 3 1 va A.length (A.map (Value.int .i64))
  behind : W.ownsRow lo 3 1 vb B.length (B.map (Value.int .i64))
  apart : ∀ g, va.ownBlock = some g → vb.ownBlock ≠ some g
  offA : va.ownBlock ≠ some b
  offB : vb.ownBlock ≠ some b
  low : lo ≤ b
/-- They stand for these, and all that is ahead is a terminal. -/
structure Stand (A B now : List Int) : Prop where
  all : A ++ B.reverse = now
  neg : ∀ x ∈ A, x < 0
theorem Stand.skip {A B now : List Int} {x : Int} (h : Stand A (B ++ [x]) now) (hx : x < 0) : Stand (A ++ [x]) B now := by
  refine ⟨?_, fun y hy => ?_⟩
  · rw [← h.all]; simp
  · rcases List.mem_append.1 hy with hy | hy
    · exact h.neg y hy
    · rw [List.mem_singleton.1 hy]; exact hx
theorem negs_app : ∀ (A l : List Int), (∀ x ∈ A, x < 0) → negs (A ++ l) = A.length + negs l
  | [], l, _ => by simp
  | a :: A, l, h => by
    rw [List.cons_append, negs, if_pos (h a (by simp)), negs_app A l (fun x hx => h x (by simp [hx])), List.length_cons]
    omega
/-- Behind a skip: at what place a step works. -/
theorem Stand.place {A B now : List Int} {x : Int} (h : Stand A (B ++ [x]) now) (hx : ¬ x < 0) : negs now = A.length ∧ now[negs now]? = some x ∧ now.take (negs now) = A ∧ now.drop (negs now + 1) = B.reverse ∧ now.length = A.length + B.length + 1 := by
  have e : now = A ++ x :: B.reverse := by rw [← h.all]; simp
  have e1 : negs now = A.length := by rw [e, negs_app A _ h.neg, negs, if_neg hx]; omega
  rw [e1]
  subst e
  refine ⟨rfl, by simp, by simp, ?_, by simp; omega⟩
  rw [← List.drop_drop, List.drop_left]
  rfl
theorem Stand.over {A now : List Int} (h : Stand A [] now) : negs now = now.length := by
  have e : now = A := by rw [← h.all]; simp
  subst e
  have := negs_app now [] h.neg
  simpa [negs] using this
/-- One step of the document's, on symbols that stand so. -/
theorem step_over {g : PG} {A now : List Int} {n : Nat} (h : Stand A [] now) (hn : n < g.prods.length) : stepR g now n = .error 16 := by
  unfold stepR
  rw [if_neg (by omega), Int.toNat_natCast, List.getElem?_eq_getElem hn]
  simp only [h.over, List.getElem?_eq_none (Nat.le_refl _)]
theorem step_at {g : PG} {A B now : List Int} {x : Int} {n : Nat} (h : Stand A (B ++ [x]) now) (hx : ¬ x < 0) (hn : n < g.prods.length) :
    stepR g now n = if x ≠ g.prods[n].left then .error 7 else if 65537 < A.length + B.length + 1 + g.prods[n].right.length then .error 6 else .ok (A ++ g.prods[n].right ++ B.reverse) := by
  obtain ⟨h1, h2, h3, h4, h5⟩ := h.place hx
  unfold stepR
  rw [if_neg (by omega), Int.toNat_natCast, List.getElem?_eq_getElem hn]
  simp only [h2, h3, h4, h5]
theorem Stand.put {A B r : List Int} (h : ∀ x ∈ A, x < 0) : Stand A (B ++ r.reverse) (A ++ r ++ B.reverse) := ⟨by simp, h⟩
end Go.Proofs.Ytjlppffkacimoaa.Tr
