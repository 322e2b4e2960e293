/-
  Layer 14: a row of a replay's symbols that grows within a round.
-/
import Derived.Test.YtjlppffkacimoaaTrT
import Derived.Test.YtjlppffkacimoaaTame
namespace Go.Proofs.Ytjlppffkacimoaa.Tr
open Go.RowKit Go.Shelf
open Gn (Asks)
open Fx (IntsAt own_of_block own_base)
attribute [local go_sem] Oper.semAt_some
set_option maxRecDepth 100000
set_option linter.unusedSimpArgs false
set_option linter.unusedVariables false

theorem own_cells {W : World} {base n g : Nat} {e : TypeId} {v : Value} {xs : List Value} (h : W.ownsRow base e 1 v n xs) (hg : v.ownBlock = some g) : ∃ cur, W.heap[g]? = some (.cells cur e (0, 0)) := by
  rcases h.2 with ⟨e2, _⟩ | ⟨g2, cp, cur, e2, _, e3, _⟩
  · rw [e2] at hg; cases hg
  · rw [e2] at hg
    have hg : g2 = g := by injection hg
    subst hg
    exact ⟨_, e3⟩
/-- The box b has v in one of its two cells, the row of v grows; bx leads to b; the blocks of G are left as they were in V. -/
structure Grow (lo b bx : Nat) (G : Nat → Prop) (cs : Value → Array Value) (xs : List Int) (w0 V : World) (v : Value) (W : World) : Prop where
  box : W.heap[b]? = some (.cells (cs v) 110 (0, 0))
  row : W.ownsRow lo 3 1 v xs.length (xs.map (Value.int .i64))
  off : ∀ g, v.ownBlock = some g → g ≠ b ∧ g ≠ bx ∧ ¬ G g
  lead : W.heap[bx]? = some (.cells #[.pointer (some ⟨b, 0, none⟩)] 136 (0, 0))
  below : Below lo w0 W
  low : lo ≤ b ∧ lo ≤ w0.heap.size
  apart : b ≠ bx ∧ ¬ G b
  size : V.heap.size ≤ W.heap.size
  rows : ∀ k, G k → ∃ cs t fr, V.heap[k]? = some (Obj.cells cs t fr)
  same : ∀ k, G k → W.heap[k]? = V.heap[k]?
theorem Grow.keeps {lo b bx : Nat} {G : Nat → Prop} {cs : Value → Array Value} {xs : List Int} {w0 V : World} {v : Value} {B : Nat} (hB : lo ≤ B) {W W' : World} {row : Option Nat} (h : Grow lo b bx G cs xs w0 V v W) (hg : W.grownBy W' row) (hr : ∀ r, row = some r → B ≤ r ∧ ∃ o : Obj, W.heap[r]? = some o ∧ o.isCells = false) : Grow lo b bx G cs xs w0 V v W' := by
  have hk : ∀ (k : Nat) (cs : Array Value) (t : TypeId) (fr : Nat × Nat), W.heap[k]? = some (Obj.cells cs t fr) → W'.heap[k]? = W.heap[k]? := fun k cs t fr e => hg.block k (Gn.heap_lt e) (fun e2 => by
    obtain ⟨_, o, h1, h2⟩ := hr k e2.symm
    rw [e] at h1
    injection h1 with h1
    subst h1
    cases h2)
  refine ⟨(hk _ _ _ _ h.box).trans h.box, ?_, h.off, (hk _ _ _ _ h.lead).trans h.lead, h.below.grown hg (Nat.le_trans h.low.2 h.below.size) (fun k e => Nat.le_trans hB (hr k e).1), h.low, h.apart, Nat.le_trans h.size hg.size, h.rows, fun k hG => ?_⟩
  · refine own_of_block h.row fun g e => ?_
    obtain ⟨cur, e3⟩ := own_cells h.row e
    exact hk _ _ _ _ e3
  · obtain ⟨c, t, fr, e⟩ := h.rows k hG
    have e2 := (h.same k hG).trans e
    exact (hk _ _ _ _ e2).trans (h.same k hG)
/-- A number more: what the round leaves. -/
theorem Grow.moved {lo b bx : Nat} {G : Nat → Prop} {cs : Value → Array Value} {xs : List Int} {x : Int} {w0 V W w4 : World} {v : Value} {i gq cap' B : Nat} {o : Obj} (h : Grow lo b bx G cs xs w0 V v W) (hi : ∀ u u', (cs u).setIfInBounds i u' = cs u')
    (hown : w4.ownsRow lo 3 1 (.slice (some ⟨gq, 0, none⟩) (xs.length + 1) cap') (xs.length + 1) (xs.map (Value.int .i64) ++ [.int .i64 x]))
    (hg : (W.drew.alloc o).grownBy w4 v.ownBlock) (ha : v.ownBlock = some gq ∨ W.heap.size ≤ gq) :
    KeepsFrom B W (w4.setCell ⟨b, i, none⟩ (.slice (some ⟨gq, 0, none⟩) (xs.length + 1) cap')) ∧ (∀ k, G k → (w4.setCell ⟨b, i, none⟩ (.slice (some ⟨gq, 0, none⟩) (xs.length + 1) cap')).heap[k]? = W.heap[k]?) ∧
    Grow lo b bx G cs (xs ++ [x]) w0 V (.slice (some ⟨gq, 0, none⟩) (xs.length + 1) cap') (w4.setCell ⟨b, i, none⟩ (.slice (some ⟨gq, 0, none⟩) (xs.length + 1) cap')) := by
  have hk : ∀ k, k < W.heap.size → v.ownBlock ≠ some k → w4.heap[k]? = W.heap[k]? := fun k hk hn => (hg.block k (by simp; omega) (fun e => hn e.symm)).trans (heap_alloc_old W.drew o hk)
  have hbz := Gn.heap_lt h.box
  have hxz := Gn.heap_lt h.lead
  have hGz : ∀ k, G k → k < W.heap.size := fun k hG => by
    obtain ⟨c, t, fr, e⟩ := h.rows k hG
    have := Gn.heap_lt e
    have := h.size
    omega
  have hbk := hk b hbz (fun e => (h.off b e).1 rfl)
  have hgq : gq ≠ b ∧ gq ≠ bx ∧ ¬ G gq := by
    rcases ha with e | e
    · exact h.off gq e
    · exact ⟨by omega, by omega, fun hG => by have := hGz gq hG; omega⟩
  have hset : ∀ k, k ≠ b → (w4.setCell ⟨b, i, none⟩ (.slice (some ⟨gq, 0, none⟩) (xs.length + 1) cap')).heap[k]? = w4.heap[k]? := fun k hk => Gn.set_keep _ _ _ (Ne.symm hk)
  have hsz : W.heap.size ≤ w4.heap.size := by have := hg.size; simp at this; omega
  have hsz5 : (w4.setCell ⟨b, i, none⟩ (.slice (some ⟨gq, 0, none⟩) (xs.length + 1) cap')).heap.size = w4.heap.size := by simp [World.setCell]
  have hsame : ∀ k, G k → (w4.setCell ⟨b, i, none⟩ (.slice (some ⟨gq, 0, none⟩) (xs.length + 1) cap')).heap[k]? = W.heap[k]? := fun k hG =>
    (hset k (fun e => h.apart.2 (e ▸ hG))).trans (hk k (hGz k hG) (fun e => (h.off _ e).2.2 hG))
  refine ⟨⟨by rw [hsz5]; exact hsz, fun k ob hB hob hoc => ?_⟩, hsame, ⟨?_, ?_, ?_, ?_, ?_, h.low, h.apart, ?_, h.rows, fun k hG => (hsame k hG).trans (h.same k hG)⟩⟩
  · have hkb : k ≠ b := fun e => by
      subst e
      rw [h.box] at hob
      injection hob with hob
      subst hob
      cases hoc
    have hkv : v.ownBlock ≠ some k := fun e => by
      obtain ⟨cur, e3⟩ := own_cells h.row e
      rw [e3] at hob
      injection hob with hob
      subst hob
      cases hoc
    exact (hset k hkb).trans ((hk k (Gn.heap_lt hob) hkv).trans hob)
  · have := Gn.heap_set (hbk.trans h.box) i (.slice (some ⟨gq, 0, none⟩) (xs.length + 1) cap')
    rwa [hi] at this
  · rw [List.length_append, List.length_singleton, List.map_append, List.map_singleton]
    exact own_of_block hown fun k e => hset k (by have e : gq = k := (by injection e); omega)
  · intro k e
    have e : gq = k := by injection e
    subst e
    exact hgq
  · exact (hset bx (fun e => h.apart.1 e.symm)).trans ((hk bx hxz (fun e => (h.off _ e).2.1 rfl)).trans h.lead)
  · have q := Below.grown ((Gn.below_drew h.below).alloc (Nat.le_trans h.low.2 h.below.size) o) hg (by simp; exact Nat.le_succ_of_le (Nat.le_trans h.low.2 h.below.size)) (fun k e => (own_base h.row e).1)
    exact q.setCell h.low.1 _
  · rw [hsz5]
    have := h.size
    omega
end Go.Proofs.Ytjlppffkacimoaa.Tr
