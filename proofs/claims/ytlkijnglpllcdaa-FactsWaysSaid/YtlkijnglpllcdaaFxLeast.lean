/-
  Shortest lengths in plain words: what a pass does, where it ends.
-/
import Derived.Test.YtlkijnglpllcdaaFxSound
import Derived.Test.YtlkijnglpllcdaaFxShort
import Derived.Test.YtlkijnglpllcdaaFxRep
namespace Go.Proofs.Ytlkijnglpllcdaa.Fx
open Go.RowKit
set_option maxRecDepth 100000

/-- All that has come of passes over the productions, from nothing. -/
inductive Runs (g : PG) : List Int → Prop where
  | start : Runs g (List.replicate g.names.length (-1))
  | step (L : List Int) (p : Prd) (k : Nat) (hL : Runs g L) (hp : p ∈ g.prods) (hk : p.left = (k : Int)) (hk2 : k < g.names.length) (h1 : shRow L p.right ≠ -1) (h2 : L.getD k (-1) = -1 ∨ shRow L p.right < L.getD k (-1)) : Runs g (L.set k (shRow L p.right))
/-- A production gives nothing shorter. -/
def FixAt (L : List Int) (p : Prd) : Prop := shRow L p.right = -1 ∨ (L.getD p.left.toNat (-1) ≠ -1 ∧ L.getD p.left.toNat (-1) ≤ shRow L p.right)
def Fix (g : PG) (L : List Int) : Prop := ∀ p ∈ g.prods, FixAt L p
/-- The lengths themselves. -/
structure Least (g : PG) (L : List Int) : Prop where
  runs : Runs g L
  fix : Fix g L
theorem shGo_ok {L : List Int} (h : LensOk L) : ∀ (l : List Int) (a : Int), 0 ≤ a → a ≤ 1099511627776 → -1 ≤ shGo L a l ∧ shGo L a l ≤ 1099511627776
  | [], a, h0, h1 => by rw [shGo]; omega
  | s :: r, a, h0, h1 => by
    rw [shGo]
    split
    · omega
    · have := shOf_ok h s
      exact shGo_ok h r _ (by omega) (by omega)
theorem shRow_ok {L : List Int} (h : LensOk L) (l : List Int) : -1 ≤ shRow L l ∧ shRow L l ≤ 1099511627776 := shGo_ok h l 0 (by omega) (by omega)
theorem runs_ok {g : PG} {L : List Int} (h : Runs g L) : L.length = g.names.length ∧ LensOk L := by
  induction h with
  | start => exact ⟨by simp, fun x hx => by rw [List.eq_of_mem_replicate hx]; omega⟩
  | step L p k hL hp hk hk2 h1 h2 ih =>
    refine ⟨by simp [ih.1], fun x hx => ?_⟩
    rcases List.mem_or_eq_of_mem_set hx with h | h
    · exact ih.2 x h
    · rw [h]; exact shRow_ok ih.2 _
/-- What is left for lengths to go down. -/
def wt (x : Int) : Nat := if x = -1 then 1099511627777 else x.toNat
def wtL (L : List Int) : Nat := (L.map wt).sum
theorem wt_set : ∀ (L : List Int) (k : Nat) (c : Int), k < L.length → c ≠ -1 → 0 ≤ c → c ≤ 1099511627776 → (L.getD k (-1) = -1 ∨ c < L.getD k (-1)) → wtL (L.set k c) < wtL L
  | [], k, c, h, _, _, _, _ => by simp at h
  | x :: r, 0, c, _, h1, h0, hm, h2 => by
    unfold wtL
    simp only [List.set_cons_zero, List.map_cons, List.sum_cons]
    simp only [List.getD_cons_zero] at h2
    have : wt c < wt x := by
      unfold wt
      rw [if_neg h1]
      rcases h2 with h2 | h2
      · rw [if_pos h2]; omega
      · split <;> omega
    omega
  | x :: r, k + 1, c, h, h1, h0, hm, h2 => by
    have ih := wt_set r k c (by simpa using h) h1 h0 hm (by simpa using h2)
    unfold wtL at ih ⊢
    simp only [List.set_cons_succ, List.map_cons, List.sum_cons]
    omega
/-- .. read off a block. -/
def wtV : Value → Nat
  | .int _ x => wt x
  | _ => 0
def wtW (W : World) (b : Nat) : Nat := match W.heap[b]? with | some (.cells cs _ _) => (cs.toList.map wtV).sum | _ => 0
theorem wtW_is {W : World} {b : Nat} {L : List Int} (h : W.heap[b]? = some (.cells (L.map (Value.int .i64)).toArray 3 (0, 0))) : wtW W b = wtL L := by
  unfold wtW wtL
  rw [h]
  simp only [List.map_map]
  congr 1

/-- What a sound grammar is. -/
structure Snd (g : PG) : Prop where
  few : g.names.length ≤ 256 ∧ g.terms.length ≤ 256 ∧ g.prods.length ≤ 256
  start : 0 ≤ g.start ∧ g.start < g.names.length
  left : ∀ p ∈ g.prods, 0 ≤ p.left ∧ p.left < g.names.length
  short : ∀ p ∈ g.prods, p.right.length ≤ 16
  known : ∀ p ∈ g.prods, ∀ s ∈ p.right, -(g.terms.length : Int) ≤ s ∧ s < g.names.length
theorem snd_of {g : PG} (h : soundB g = true) : Snd g := by
  unfold soundB fewB at h
  simp only [Bool.and_eq_true, decide_eq_true_eq, Bool.not_eq_true', List.any_eq_false] at h
  obtain ⟨h1, h2, _, _, _, _, _, h3, _⟩ := h
  unfold ntB at h2
  rw [decide_eq_true_eq] at h2
  have hw : ∀ p ∈ g.prods, ntB g p.left = true ∧ ¬ 16 < p.right.length ∧ ∀ s ∈ p.right, missB g s = false := fun p hp => by
    have := h3 p hp
    unfold wrongB at this
    simp only [Bool.or_eq_true, not_or, Bool.not_eq_true', decide_eq_true_eq, Bool.not_eq_false, List.any_eq_true, not_exists, not_and] at this
    exact ⟨this.1.1, this.1.2, fun s hs => by have := this.2 s hs; simpa using this⟩
  refine ⟨h1, h2, fun p hp => ?_, fun p hp => ?_, fun p hp s hs => ?_⟩
  · have := (hw p hp).1
    unfold ntB at this
    rwa [decide_eq_true_eq] at this
  · have := (hw p hp).2.1; omega
  · have := (hw p hp).2.2 s hs
    unfold missB at this
    rw [decide_eq_false_iff_not] at this
    omega
end Go.Proofs.Ytlkijnglpllcdaa.Fx
