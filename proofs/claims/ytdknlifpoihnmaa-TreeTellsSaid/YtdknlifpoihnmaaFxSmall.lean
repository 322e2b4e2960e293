/-
  The walks of plain's small functions: nonterminal, long, byLeft, and what misses.
-/
import Derived.Test.YtdknlifpoihnmaaFxRow
namespace Go.Proofs.Ytdknlifpoihnmaa.Fx
open Go.RowKit
open Gn (Asks)
set_option maxRecDepth 100000

/-- Lists that are not greater than any machine's. -/
structure PG.Small (g : PG) : Prop where
  names : g.names.length ≤ 1099511627776
  terms : g.terms.length ≤ 1099511627776
  prods : g.prods.length ≤ 1099511627776
def ntB (g : PG) (n : Int) : Bool := decide (0 ≤ n ∧ n < g.names.length)
def longB (s : ByteArray) : Bool := decide (16 < s.size)
def missB (g : PG) (x : Int) : Bool := decide (x < -(g.terms.length : Int) ∨ (g.names.length : Int) ≤ x)
def wrongB (g : PG) (p : Prd) : Bool := !ntB g p.left || decide (16 < p.right.length) || p.right.any (missB g)

theorem nonterm_any (g : PG) (hs : g.Small) (P : Nat → Prop) (W : World) (v : Value) (h : PgAt P W g v) (n : Int) :
    Calls Try.prog 53 #[v, .int .i64 n] W (Asks (ntB g n) W) := by
  obtain ⟨An, At_, Ap, cn, ct, cp, rfl, _, _, _⟩ := h.open_
  have hn := hs.names
  obtain ⟨b, hb⟩ : ∃ b, b = ntB g n := ⟨_, rfl⟩
  rw [← hb]
  have HB := Lib.hid hb
  clear hb h hs
  by_cases h1 : 0 ≤ n
  · by_cases h2 : n < (g.names.length : Int)
    · have HT := Lib.hid (show b = true by rw [HB.out, ntB, decide_eq_true_eq]; exact ⟨h1, h2⟩)
      go_enter Try.func53, Try.ntmps53
      go_wp2
      go_ret
      exact ⟨by rw [HT.out]; rfl, (Below.refl _ _).alloc (Nat.le_refl _) _⟩
    · have HT := Lib.hid (show b = false by rw [HB.out, ntB, decide_eq_false_iff_not]; omega)
      go_enter Try.func53, Try.ntmps53
      go_wp2
      go_ret
      exact ⟨by rw [HT.out]; rfl, (Below.refl _ _).alloc (Nat.le_refl _) _⟩
  · have HT := Lib.hid (show b = false by rw [HB.out, ntB, decide_eq_false_iff_not]; omega)
    go_enter Try.func53, Try.ntmps53
    go_wp2
    go_ret
    exact ⟨by rw [HT.out]; rfl, (Below.refl _ _).alloc (Nat.le_refl _) _⟩

theorem long_any (s : ByteArray) (W : World) : Calls Try.prog 56 #[.string s] W fun e w' => e = .returned (.bool (longB s)) ∧ W = w' := by
  obtain ⟨b, hb⟩ : ∃ b, b = longB s := ⟨_, rfl⟩
  rw [← hb]
  have HB := Lib.hid hb
  clear hb
  by_cases h1 : (16 : Int) < (s.size : Int)
  all_goals
    go_enter Try.func56, Try.ntmps56
    go_wp2
    go_ret
    refine ⟨?_, rfl⟩
    rw [HB.out, longB]
  · rw [decide_eq_true (by omega)]; rfl
  · rw [decide_eq_false (by omega)]; rfl

/-- The captured grammar: its box. -/
def PgBox (P : Nat → Prop) (W : World) (g : PG) (B : Nat) : Prop := ∃ cs : Array Value, W.heap[B]? = some (.cells cs 31 (0, 0)) ∧ PgAt P W g (.agg cs)
theorem PgBox.under {P : Nat → Prop} {W W' : World} {g : PG} {B : Nat} (h : PgBox P W g B) (b : Below W.heap.size W W') : PgBox P W' g B := by
  obtain ⟨cs, h1, h2⟩ := h
  exact ⟨cs, (b.block _ (Gn.heap_lt h1)).trans h1, h2.under b⟩
theorem PgBox.facts {P : Nat → Prop} {W : World} {g : PG} {B : Nat} (h : PgBox P W g B) : ∃ (An At_ Ap : Option Addr) (cn ct cp : Nat), W.heap[B]? = some (.cells #[.int .i64 g.start, .int .i64 g.rules, .slice An g.names.length cn, .slice At_ g.terms.length ct, .slice Ap g.prods.length cp] 31 (0, 0)) ∧
    StrsAt P W g.names (.slice An g.names.length cn) ∧ StrsAt P W g.terms (.slice At_ g.terms.length ct) ∧ PrdsAt P W g.prods (.slice Ap g.prods.length cp) := by
  obtain ⟨cs, h1, h2⟩ := h
  obtain ⟨An, At_, Ap, cn, ct, cp, e, h3, h4, h5⟩ := h2.open_
  injection e with e
  subst e
  exact ⟨An, At_, Ap, cn, ct, cp, h1, h3, h4, h5⟩
theorem PgBox.new {P : Nat → Prop} {W : World} {g : PG} {cs : Array Value} (h : PgAt P W g (.agg cs)) : PgBox P (W.alloc (.cells cs 31)) g W.heap.size :=
  ⟨cs, heap_alloc_new W _, h.under ((Below.refl _ _).alloc (Nat.le_refl _) _)⟩

set_option maxHeartbeats 1000000 in
theorem miss_any (g : PG) (hs : g.Small) (P : Nat → Prop) (W : World) (B : Nat) (h : PgBox P W g B) (x : Int) :
    Calls Try.prog 79 #[.int .i64 x, .pointer (some ⟨B, 0, none⟩)] W (Asks (missB g x) W) := by
  obtain ⟨An, At_, Ap, cn, ct, cp, hb, _, _, _⟩ := h.facts
  have c2 : W.cell? ⟨B, 2, none⟩ = some (.slice An g.names.length cn) := cell_of_row _ _ 2 _ _ (0, 0) hb
  have c3 : W.cell? ⟨B, 3, none⟩ = some (.slice At_ g.terms.length ct) := cell_of_row _ _ 3 _ _ (0, 0) hb
  have hn := hs.names
  have ht := hs.terms
  obtain ⟨b, hb2⟩ : ∃ b, b = missB g x := ⟨_, rfl⟩
  rw [← hb2]
  have HB := Lib.hid hb2
  clear hb2 h hs hb
  by_cases h1 : x < -(g.terms.length : Int)
  · have HT := Lib.hid (show b = true by rw [HB.out, missB, decide_eq_true_eq]; exact .inl h1)
    go_enter Try.func79, Try.ntmps79
    go_wp2
    go_ret
    exact ⟨by rw [HT.out]; rfl, Below.refl _ _⟩
  · by_cases h2 : (g.names.length : Int) ≤ x
    · have HT := Lib.hid (show b = true by rw [HB.out, missB, decide_eq_true_eq]; exact .inr h2)
      go_enter Try.func79, Try.ntmps79
      go_wp2
      go_ret
      exact ⟨by rw [HT.out]; rfl, Below.refl _ _⟩
    · have HT := Lib.hid (show b = false by rw [HB.out, missB, decide_eq_false_iff_not]; omega)
      go_enter Try.func79, Try.ntmps79
      go_wp2
      go_ret
      exact ⟨by rw [HT.out]; rfl, Below.refl _ _⟩

set_option maxHeartbeats 1000000 in
theorem byLeft_any (x y : Int) (u v : Value) (W : World) :
    Calls Try.prog 60 #[.agg #[.int .i64 x, u], .agg #[.int .i64 y, v]] W fun e w' => e = .returned (.int .i64 (Lib.compareInt x y)) ∧ Below W.heap.size W w' := by
  have KC := Lib.hid (fun W => Try.cmp_Compare_int x y W)
  go_enter Try.func60, Try.ntmps60
  go_wp2_with fail
  refine (KC.out _).mono ?_
  rintro e w1 ⟨rfl, rfl⟩
  go_wp2
  go_ret
  exact ⟨rfl, ((Below.refl _ _).alloc (Nat.le_refl _) _).alloc (by simp) _⟩
end Go.Proofs.Ytdknlifpoihnmaa.Fx
