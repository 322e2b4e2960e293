/-
  Nodes in memory; rows of nodes that grow.
-/
import Derived.Test.YtakihbjfkpebcaaSxTotal
import Derived.Test.YtakihbjfkpebcaaLxScan
import Derived.Maps.AppendAt
namespace Go.Proofs.Ytakihbjfkpebcaa.Sx
open Go.RowKit
open Lx (mk heap_lt own_block)
set_option maxRecDepth 100000

/-- These three cells are the node t; all its kids' rows stand in blocks of which P holds. -/
inductive Nd (P : Nat → Prop) (W : World) : Tree → Value → Value → Value → Prop
  | mk (k : Nat) (text : List UInt8) (kids : List Tree) (A : Option Addr) (cap r : Nat) (a b c : Nat → Value)
      (hA : 0 < kids.length → A = some ⟨r, 0, none⟩ ∧ r < W.heap.size ∧ P r) (hcap : kids.length ≤ cap)
      (hc : ∀ i, i < kids.length → W.cell? ⟨r, i * 3, none⟩ = some (a i) ∧ W.cell? ⟨r, i * 3 + 1, none⟩ = some (b i) ∧ W.cell? ⟨r, i * 3 + 2, none⟩ = some (c i))
      (hk : ∀ (i : Nat) (h : i < kids.length), Nd P W kids[i] (a i) (b i) (c i)) :
      Nd P W (.node k text kids) (.int .i64 k) (.string (Lx.mk text)) (.slice A kids.length cap)

theorem Nd.keep {P Q : Nat → Prop} {W W' : World} {t : Tree} {x y z : Value} (h : Nd P W t x y z) (hs : W.heap.size ≤ W'.heap.size) (hq : ∀ r, P r → r < W.heap.size → Q r ∧ ∀ j, W'.cell? ⟨r, j, none⟩ = W.cell? ⟨r, j, none⟩) : Nd Q W' t x y z := by
  induction h with
  | mk k text kids A cap r a b c hA hcap hc hk ih =>
    refine .mk k text kids A cap r a b c (fun h0 => ?_) hcap (fun i hi => ?_) ih
    · obtain ⟨h1, h2, h3⟩ := hA h0
      exact ⟨h1, by omega, (hq r h3 h2).1⟩
    · obtain ⟨h1, h2, h3⟩ := hA (by omega)
      have e := (hq r h3 h2).2
      rw [e, e, e]
      exact hc i hi
theorem Nd.under {P : Nat → Prop} {W W' : World} {t : Tree} {x y z : Value} (h : Nd P W t x y z) (b : Below W.heap.size W W') : Nd P W' t x y z :=
  h.keep b.size fun r hp hr => ⟨hp, fun j => b.cell (p := ⟨r, j, none⟩) hr⟩
theorem Nd.sep {B : Nat} {W W' : World} {g : Nat} {t : Tree} {x y z : Value} (h : Nd (fun r => B ≤ r) W t x y z) (s : Lx.Sep g W.heap.size W W') (hg : g < B) : Nd (fun r => B ≤ r) W' t x y z :=
  h.keep s.size fun r hp hr => ⟨hp, fun j => by
    have := s.block r hr (by omega)
    unfold World.cell?
    simp only [this]⟩
theorem Nd.leaf (P : Nat → Prop) (W : World) (k : Nat) (text : List UInt8) (A : Option Addr) (cap : Nat) : Nd P W (.node k text []) (.int .i64 k) (.string (Lx.mk text)) (.slice A 0 cap) :=
  .mk k text [] A cap 0 (fun _ => .bool false) (fun _ => .bool false) (fun _ => .bool false) (fun h => absurd h (by simp)) (by simp) (fun i hi => absurd hi (by simp)) (fun i hi => absurd hi (by simp))

/-- The cells of some nodes. -/
def cells3 (vs : List (Value × Value × Value)) : List Value := vs.flatMap fun v => [v.1, v.2.1, v.2.2]
theorem cells3_len (vs : List (Value × Value × Value)) : (cells3 vs).length = vs.length * 3 := by
  induction vs with
  | nil => rfl
  | cons v vs ih =>
    have : cells3 (v :: vs) = [v.1, v.2.1, v.2.2] ++ cells3 vs := by simp [cells3]
    rw [this, List.length_append, ih]; simp; omega
theorem cells3_at (vs : List (Value × Value × Value)) (i : Nat) (h : i < vs.length) : (cells3 vs)[i * 3]? = some vs[i].1 ∧ (cells3 vs)[i * 3 + 1]? = some vs[i].2.1 ∧ (cells3 vs)[i * 3 + 2]? = some vs[i].2.2 := by
  induction vs generalizing i with
  | nil => simp at h
  | cons v vs ih =>
    have e : cells3 (v :: vs) = v.1 :: v.2.1 :: v.2.2 :: cells3 vs := by simp [cells3]
    rw [e]
    cases i with
    | zero => exact ⟨rfl, rfl, rfl⟩
    | succ i =>
      have := ih i (by simpa using h)
      rw [show (i + 1) * 3 = i * 3 + 3 by omega]
      simpa using this
theorem cells3_snoc (vs : List (Value × Value × Value)) (v : Value × Value × Value) : cells3 (vs ++ [v]) = cells3 vs ++ [v.1, v.2.1, v.2.2] := by simp [cells3]

/-- A row of nodes of the call's own, that may still grow: no node stands in the row itself. -/
def Items (base : Nat) (W : World) (A : Option Addr) (cap : Nat) (acc : List Tree) : Prop :=
  ∃ vs : List (Value × Value × Value), vs.length = acc.length ∧ W.ownsRow base 63 3 (.slice A acc.length cap) acc.length (cells3 vs) ∧
    ∀ (i : Nat) (h : i < acc.length) (h2 : i < vs.length), Nd (fun r => base ≤ r ∧ (Value.slice A acc.length cap).ownBlock ≠ some r) W acc[i] vs[i].1 vs[i].2.1 vs[i].2.2
theorem Items.nil (base : Nat) (W : World) : Items base W none 0 [] := ⟨[], rfl, World.ownsRow_nil _ _ _ _, fun i h => absurd h (by simp)⟩
theorem Items.own {base : Nat} {W : World} {A : Option Addr} {cap : Nat} {acc : List Tree} (h : Items base W A cap acc) : ∃ xs, W.ownsRow base 63 3 (.slice A acc.length cap) acc.length xs := by
  obtain ⟨vs, _, h2, _⟩ := h; exact ⟨_, h2⟩
/-- Whatever turns neither the row nor its nodes keeps them. -/
theorem Items.keep {base : Nat} {W W' : World} {A : Option Addr} {cap : Nat} {acc : List Tree} (h : Items base W A cap acc) (hs : W.heap.size ≤ W'.heap.size) (hb : ∀ r, base ≤ r → r < W.heap.size → W'.heap[r]? = W.heap[r]?) : Items base W' A cap acc := by
  obtain ⟨vs, h1, h2, h3⟩ := h
  refine ⟨vs, h1, ⟨h2.1, ?_⟩, fun i hi hi2 => (h3 i hi hi2).keep hs fun r hp hr => ⟨hp, fun j => ?_⟩⟩
  · rcases h2.2 with h4 | ⟨g, cp, cur, hv, hbr, hh, hrest⟩
    · exact .inl h4
    · exact .inr ⟨g, cp, cur, hv, hbr, (hb g hbr (heap_lt hh)).trans hh, hrest⟩
  · have := hb r hp.1 hr
    unfold World.cell?
    simp only [this]
/-- The row as a node's kids. -/
theorem Items.node {base : Nat} {W : World} {A : Option Addr} {cap : Nat} {acc : List Tree} (h : Items base W A cap acc) (k : Nat) : Nd (fun r => base ≤ r) W (.node k [] acc) (.int .i64 k) (.string ⟨#[]⟩) (.slice A acc.length cap) := by
  obtain ⟨vs, h1, h2, h3⟩ := h
  have hw : ∀ (i : Nat) (hi : i < acc.length), Nd (fun r => base ≤ r) W acc[i] (vs.getD i (.bool false, .bool false, .bool false)).1 (vs.getD i (.bool false, .bool false, .bool false)).2.1 (vs.getD i (.bool false, .bool false, .bool false)).2.2 := fun i hi => by
    have e : vs.getD i (.bool false, .bool false, .bool false) = vs[i]'(by omega) := by simp [List.getD, List.getElem?_eq_getElem (show i < vs.length by omega)]
    rw [e]
    exact (h3 i hi (by omega)).keep (Nat.le_refl _) fun r hp _ => ⟨hp.1, fun _ => rfl⟩
  rcases h2.2 with ⟨hv, hn⟩ | ⟨g, cp, cur, hv, hbr, hh, hnc, _⟩
  · have e : acc = [] := List.eq_nil_of_length_eq_zero hn
    subst e
    exact Nd.leaf _ _ k [] A cap
  · injection hv with hA _ hcp
    subst hA
    subst hcp
    have hcell := h2.cells (g := g) rfl
    refine .mk k [] acc (some ⟨g, 0, none⟩) cap g _ _ _ (fun _ => ⟨rfl, heap_lt hh, hbr⟩) hnc (fun i hi => ?_) hw
    have e : vs.getD i (.bool false, .bool false, .bool false) = vs[i]'(by omega) := by simp [List.getD, List.getElem?_eq_getElem (show i < vs.length by omega)]
    obtain ⟨c1, c2, c3⟩ := cells3_at vs i (by omega)
    simp only [e]
    refine ⟨?_, ?_, ?_⟩
    · have := hcell _ _ c1; rwa [Lx.add_row] at this
    · have := hcell _ _ c2; rwa [Lx.add_row] at this
    · have := hcell _ _ c3; rwa [Lx.add_row] at this
/-- The only node of a row. -/
theorem Items.one {base : Nat} {W : World} {A : Option Addr} {cap : Nat} {t : Tree} (h : Items base W A cap [t]) : ∃ r x y z, A = some ⟨r, 0, none⟩ ∧ r < W.heap.size ∧ W.cell? ⟨r, 0, none⟩ = some x ∧ W.cell? ⟨r, 1, none⟩ = some y ∧ W.cell? ⟨r, 2, none⟩ = some z ∧ Nd (fun r => base ≤ r) W t x y z := by
  obtain ⟨vs, h1, h2, h3⟩ := h
  rcases h2.2 with ⟨hv, hn⟩ | ⟨g, cp, cur, hv, hbr, hh, hnc, _⟩
  · simp at hn
  · injection hv with hA _ hcp
    subst hA
    have hcell := h2.cells (g := g) rfl
    have hv0 : 0 < vs.length := by rw [h1]; simp
    obtain ⟨c1, c2, c3⟩ := cells3_at vs 0 hv0
    have hn := h3 0 (by simp) hv0
    refine ⟨g, vs[0].1, vs[0].2.1, vs[0].2.2, rfl, heap_lt hh, ?_, ?_, ?_, hn.keep (Nat.le_refl _) fun r hp _ => ⟨hp.1, fun _ => rfl⟩⟩
    · have := hcell _ _ c1; rwa [Lx.add_row] at this
    · have := hcell _ _ c2; rwa [Lx.add_row] at this
    · have := hcell _ _ c3; rwa [Lx.add_row] at this

/-- Behind an append of one node that was made behind the row. -/
theorem Items.snoc {base lo : Nat} {W1 w4 : World} {A : Option Addr} {cap : Nat} {acc : List Tree} {t : Tree} {x y z v' : Value} {o : Obj} (h : Items base W1 A cap acc) (hlo : base ≤ lo) (hown : ∀ k, (Value.slice A acc.length cap).ownBlock = some k → k < lo) (hn : Nd (fun r => lo ≤ r) W1 t x y z)
    (hown4 : ∀ vs : List (Value × Value × Value), W1.ownsRow base 63 3 (.slice A acc.length cap) acc.length (cells3 vs) → w4.ownsRow base 63 3 v' (acc.length + 1) (cells3 vs ++ [x, y, z]))
    (hg : (W1.alloc o).grownBy w4 (Value.slice A acc.length cap).ownBlock) (hat : v'.ownBlock = (Value.slice A acc.length cap).ownBlock ∨ v'.ownBlock = some (W1.alloc o).heap.size) :
    ∃ A' cap', v' = .slice A' (acc.length + 1) cap' ∧ Items base w4 A' cap' (acc ++ [t]) := by
  obtain ⟨vs, h1, h2, h3⟩ := h
  have ho := hown4 vs h2
  obtain ⟨A', cap', rfl⟩ := Lx.slice_of ho
  have hl : (acc ++ [t]).length = acc.length + 1 := by simp
  have hsz : W1.heap.size ≤ w4.heap.size := by have := hg.size; simp at this; omega
  have hcell : ∀ r j, r < W1.heap.size → (Value.slice A acc.length cap).ownBlock ≠ some r → w4.cell? ⟨r, j, none⟩ = W1.cell? ⟨r, j, none⟩ := fun r j hr hne => by
    have e := (hg.block r (by simp; omega) (fun e => hne e.symm)).trans (heap_alloc_old W1 o hr)
    unfold World.cell?
    simp only [e]
  refine ⟨A', cap', rfl, vs ++ [(x, y, z)], by simp [h1], by rw [hl, cells3_snoc]; exact ho, fun i hi hi2 => ?_⟩
  rw [hl]
  have hne4 : ∀ r, r < W1.heap.size → (Value.slice A acc.length cap).ownBlock ≠ some r → (Value.slice A' (acc.length + 1) cap').ownBlock ≠ some r := fun r hr hne e => by
    rcases hat with h | h
    · rw [h] at e; exact hne e
    · rw [h] at e; injection e with e; simp at e; omega
  by_cases hi3 : i < acc.length
  · have e1 : (acc ++ [t])[i] = acc[i] := List.getElem_append_left hi3
    have e2 : (vs ++ [(x, y, z)])[i] = vs[i]'(by omega) := List.getElem_append_left (by omega)
    rw [e1, e2]
    exact (h3 i hi3 (by omega)).keep hsz fun r hp hr => ⟨⟨hp.1, hne4 r hr hp.2⟩, fun j => hcell r j hr hp.2⟩
  · have hie : i = acc.length := by rw [hl] at hi; omega
    subst hie
    have e1 : (acc ++ [t])[acc.length]'hi = t := by simp
    have e2 : (vs ++ [(x, y, z)])[acc.length]'hi2 = (x, y, z) := by simp [← h1]
    rw [e1, e2]
    refine hn.keep hsz fun r hp hr => ?_
    have hne : (Value.slice A acc.length cap).ownBlock ≠ some r := fun e => by have := hown r e; omega
    exact ⟨⟨by omega, hne4 r hr hne⟩, fun j => hcell r j hr hne⟩

/-- One node as a row. -/
theorem Items.start {base lo : Nat} {W : World} {t : Tree} {x y z : Value} (h : Nd (fun r => lo ≤ r) W t x y z) (hlo : base ≤ lo) (hb : base ≤ W.heap.size) : Items base (W.alloc (.cells #[x, y, z] 63)) (some ⟨W.heap.size, 0, none⟩) 1 [t] := by
  refine ⟨[(x, y, z)], rfl, ⟨rfl, .inr ⟨W.heap.size, 1, _, rfl, hb, heap_alloc_new W _, Nat.le_refl _, by unfold maxLen; simp, rfl, rfl⟩⟩, fun i hi hi2 => ?_⟩
  have : i = 0 := by simp at hi; omega
  subst this
  refine h.keep (by simp) fun r hp hr => ⟨⟨by omega, fun e => ?_⟩, fun j => ((Below.refl W.heap.size W).alloc (Nat.le_refl _) _).cell (p := ⟨r, j, none⟩) hr⟩
  simp [Value.ownBlock] at e
  omega

end Go.Proofs.Ytakihbjfkpebcaa.Sx
