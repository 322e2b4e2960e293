/-
  Plain grammars in memory: rows of numbers, of texts, of productions.
-/
import Derived.Test.YtnmhgjoofgmcgaaGreatGn
namespace Go.Proofs.YtnmhgjoofgmcgaaGreat.Fx
open Go.RowKit
open Gn (heap_lt own_block cell_same)
set_option maxRecDepth 100000

/-- This value reads as these numbers, in a block of which P holds. -/
def IntsAt (P : Nat → Prop) (W : World) (l : List Int) (v : Value) : Prop :=
  ∃ (A : Option Addr) (cap b : Nat), v = .slice A l.length cap ∧ l.length ≤ cap ∧ (0 < l.length → A = some ⟨b, 0, none⟩ ∧ b < W.heap.size ∧ P b) ∧ ∀ (i : Nat) (h : i < l.length), W.cell? ⟨b, i, none⟩ = some (.int .i64 l[i])
theorem IntsAt.keep {P Q : Nat → Prop} {W W' : World} {l : List Int} {v : Value} (h : IntsAt P W l v) (hs : W.heap.size ≤ W'.heap.size) (hq : ∀ r, P r → r < W.heap.size → Q r ∧ ∀ j, W'.cell? ⟨r, j, none⟩ = W.cell? ⟨r, j, none⟩) : IntsAt Q W' l v := by
  obtain ⟨A, cap, b, h1, h2, h3, h4⟩ := h
  refine ⟨A, cap, b, h1, h2, fun h0 => ?_, fun i hi => ?_⟩
  · obtain ⟨e1, e2, e3⟩ := h3 h0
    exact ⟨e1, by omega, (hq b e3 e2).1⟩
  · obtain ⟨e1, e2, e3⟩ := h3 (by omega)
    rw [(hq b e3 e2).2]
    exact h4 i hi
theorem IntsAt.under {P : Nat → Prop} {W W' : World} {l : List Int} {v : Value} (h : IntsAt P W l v) (b : Below W.heap.size W W') : IntsAt P W' l v :=
  h.keep b.size fun r hp hr => ⟨hp, fun j => b.cell (p := ⟨r, j, none⟩) hr⟩
theorem IntsAt.form {P : Nat → Prop} {W : World} {l : List Int} {v : Value} (h : IntsAt P W l v) : ∃ A cap, v = .slice A l.length cap := by
  obtain ⟨A, cap, b, h1, _⟩ := h; exact ⟨A, cap, h1⟩
theorem IntsAt.nil (P : Nat → Prop) (W : World) (A : Option Addr) (cap : Nat) : IntsAt P W [] (.slice A 0 cap) := ⟨A, cap, 0, rfl, by simp, fun h => absurd h (by simp), fun i h => absurd h (by simp)⟩
/-- A row of the call's own reads as its numbers. -/
theorem IntsAt.of_own {W : World} {base : Nat} {e : TypeId} {v : Value} {l : List Int} (h : W.ownsRow base e 1 v l.length (l.map (Value.int .i64))) : IntsAt (fun b => base ≤ b) W l v := by
  rcases h.2 with ⟨rfl, hn⟩ | ⟨g, cp, cur, rfl, hbr, hh, hnc, _⟩
  · have e : l = [] := List.eq_nil_of_length_eq_zero hn
    subst e
    exact IntsAt.nil _ _ _ _
  · have hc := h.cells (g := g) rfl
    refine ⟨_, cp, g, rfl, hnc, fun _ => ⟨rfl, heap_lt hh, hbr⟩, fun i hi => ?_⟩
    have := hc i (.int .i64 l[i]) (by simp [hi])
    rwa [Gn.add_row] at this

/-- This value reads as these texts. -/
def StrsAt (P : Nat → Prop) (W : World) (l : List ByteArray) (v : Value) : Prop :=
  ∃ (A : Option Addr) (cap b : Nat), v = .slice A l.length cap ∧ l.length ≤ cap ∧ (0 < l.length → A = some ⟨b, 0, none⟩ ∧ b < W.heap.size ∧ P b) ∧ ∀ (i : Nat) (h : i < l.length), W.cell? ⟨b, i, none⟩ = some (.string l[i])
theorem StrsAt.keep {P Q : Nat → Prop} {W W' : World} {l : List ByteArray} {v : Value} (h : StrsAt P W l v) (hs : W.heap.size ≤ W'.heap.size) (hq : ∀ r, P r → r < W.heap.size → Q r ∧ ∀ j, W'.cell? ⟨r, j, none⟩ = W.cell? ⟨r, j, none⟩) : StrsAt Q W' l v := by
  obtain ⟨A, cap, b, h1, h2, h3, h4⟩ := h
  refine ⟨A, cap, b, h1, h2, fun h0 => ?_, fun i hi => ?_⟩
  · obtain ⟨e1, e2, e3⟩ := h3 h0
    exact ⟨e1, by omega, (hq b e3 e2).1⟩
  · obtain ⟨e1, e2, e3⟩ := h3 (by omega)
    rw [(hq b e3 e2).2]
    exact h4 i hi
theorem StrsAt.under {P : Nat → Prop} {W W' : World} {l : List ByteArray} {v : Value} (h : StrsAt P W l v) (b : Below W.heap.size W W') : StrsAt P W' l v :=
  h.keep b.size fun r hp hr => ⟨hp, fun j => b.cell (p := ⟨r, j, none⟩) hr⟩
theorem StrsAt.form {P : Nat → Prop} {W : World} {l : List ByteArray} {v : Value} (h : StrsAt P W l v) : ∃ A cap, v = .slice A l.length cap := by
  obtain ⟨A, cap, b, h1, _⟩ := h; exact ⟨A, cap, h1⟩

/-- A production; a grammar. -/
structure Prd where
  left : Int
  right : List Int
structure PG where
  start : Int
  rules : Int
  names : List ByteArray
  terms : List ByteArray
  prods : List Prd
/-- This value reads as these productions. -/
def PrdsAt (P : Nat → Prop) (W : World) (l : List Prd) (v : Value) : Prop :=
  ∃ (A : Option Addr) (cap b : Nat) (f : Nat → Value), v = .slice A l.length cap ∧ l.length ≤ cap ∧ (0 < l.length → A = some ⟨b, 0, none⟩ ∧ b < W.heap.size ∧ P b) ∧
    ∀ (i : Nat) (h : i < l.length), W.cell? ⟨b, i * 2, none⟩ = some (.int .i64 l[i].left) ∧ W.cell? ⟨b, i * 2 + 1, none⟩ = some (f i) ∧ IntsAt P W l[i].right (f i)
theorem PrdsAt.keep {P Q : Nat → Prop} {W W' : World} {l : List Prd} {v : Value} (h : PrdsAt P W l v) (hs : W.heap.size ≤ W'.heap.size) (hq : ∀ r, P r → r < W.heap.size → Q r ∧ ∀ j, W'.cell? ⟨r, j, none⟩ = W.cell? ⟨r, j, none⟩) : PrdsAt Q W' l v := by
  obtain ⟨A, cap, b, f, h1, h2, h3, h4⟩ := h
  refine ⟨A, cap, b, f, h1, h2, fun h0 => ?_, fun i hi => ?_⟩
  · obtain ⟨e1, e2, e3⟩ := h3 h0
    exact ⟨e1, by omega, (hq b e3 e2).1⟩
  · obtain ⟨e1, e2, e3⟩ := h3 (by omega)
    rw [(hq b e3 e2).2, (hq b e3 e2).2]
    exact ⟨(h4 i hi).1, (h4 i hi).2.1, (h4 i hi).2.2.keep hs hq⟩
theorem PrdsAt.under {P : Nat → Prop} {W W' : World} {l : List Prd} {v : Value} (h : PrdsAt P W l v) (b : Below W.heap.size W W') : PrdsAt P W' l v :=
  h.keep b.size fun r hp hr => ⟨hp, fun j => b.cell (p := ⟨r, j, none⟩) hr⟩
theorem PrdsAt.form {P : Nat → Prop} {W : World} {l : List Prd} {v : Value} (h : PrdsAt P W l v) : ∃ A cap, v = .slice A l.length cap := by
  obtain ⟨A, cap, b, f, h1, _⟩ := h; exact ⟨A, cap, h1⟩
/-- This value reads as this grammar. -/
def PgAt (P : Nat → Prop) (W : World) (g : PG) (v : Value) : Prop :=
  ∃ vn vt vp, v = .agg #[.int .i64 g.start, .int .i64 g.rules, vn, vt, vp] ∧ StrsAt P W g.names vn ∧ StrsAt P W g.terms vt ∧ PrdsAt P W g.prods vp
theorem PgAt.keep {P Q : Nat → Prop} {W W' : World} {g : PG} {v : Value} (h : PgAt P W g v) (hs : W.heap.size ≤ W'.heap.size) (hq : ∀ r, P r → r < W.heap.size → Q r ∧ ∀ j, W'.cell? ⟨r, j, none⟩ = W.cell? ⟨r, j, none⟩) : PgAt Q W' g v := by
  obtain ⟨vn, vt, vp, h1, h2, h3, h4⟩ := h
  exact ⟨vn, vt, vp, h1, h2.keep hs hq, h3.keep hs hq, h4.keep hs hq⟩
theorem PgAt.under {P : Nat → Prop} {W W' : World} {g : PG} {v : Value} (h : PgAt P W g v) (b : Below W.heap.size W W') : PgAt P W' g v :=
  h.keep b.size fun r hp hr => ⟨hp, fun j => b.cell (p := ⟨r, j, none⟩) hr⟩
/-- The value as the walk wants it. -/
theorem PgAt.open_ {P : Nat → Prop} {W : World} {g : PG} {v : Value} (h : PgAt P W g v) : ∃ (An At_ Ap : Option Addr) (cn ct cp : Nat), v = .agg #[.int .i64 g.start, .int .i64 g.rules, .slice An g.names.length cn, .slice At_ g.terms.length ct, .slice Ap g.prods.length cp] ∧
    StrsAt P W g.names (.slice An g.names.length cn) ∧ StrsAt P W g.terms (.slice At_ g.terms.length ct) ∧ PrdsAt P W g.prods (.slice Ap g.prods.length cp) := by
  obtain ⟨vn, vt, vp, h1, h2, h3, h4⟩ := h
  obtain ⟨An, cn, rfl⟩ := h2.form
  obtain ⟨At_, ct, rfl⟩ := h3.form
  obtain ⟨Ap, cp, rfl⟩ := h4.form
  exact ⟨An, At_, Ap, cn, ct, cp, h1, h2, h3, h4⟩
end Go.Proofs.YtnmhgjoofgmcgaaGreat.Fx
