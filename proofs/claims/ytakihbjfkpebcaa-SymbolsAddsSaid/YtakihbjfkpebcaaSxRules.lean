/-
  Rows of rules in memory.
-/
import Derived.Test.YtakihbjfkpebcaaSxRule
import Derived.Deep.AppendLies
namespace Go.Proofs.Ytakihbjfkpebcaa.Sx
open Go.RowKit
open Lx (Tk Toks heap_lt own_block)
set_option maxRecDepth 100000

abbrev Rul := List UInt8 × Tree
/-- This value reads as these rules, in blocks of which P holds. -/
def RlsAt (P : Nat → Prop) (W : World) (rs : List Rul) (v : Value) : Prop :=
  ∃ (A : Option Addr) (cap r : Nat) (a b c : Nat → Value), v = .slice A rs.length cap ∧ rs.length ≤ cap ∧ (0 < rs.length → A = some ⟨r, 0, none⟩ ∧ r < W.heap.size ∧ P r) ∧
    ∀ (i : Nat) (h : i < rs.length), (W.cell? ⟨r, i * 4, none⟩ = some (.string (Lx.mk rs[i].1)) ∧ W.cell? ⟨r, i * 4 + 1, none⟩ = some (a i) ∧ W.cell? ⟨r, i * 4 + 2, none⟩ = some (b i) ∧ W.cell? ⟨r, i * 4 + 3, none⟩ = some (c i)) ∧ Nd P W rs[i].2 (a i) (b i) (c i)
theorem RlsAt.keep {P Q : Nat → Prop} {W W' : World} {rs : List Rul} {v : Value} (h : RlsAt P W rs v) (hs : W.heap.size ≤ W'.heap.size) (hq : ∀ r, P r → r < W.heap.size → Q r ∧ ∀ j, W'.cell? ⟨r, j, none⟩ = W.cell? ⟨r, j, none⟩) : RlsAt Q W' rs v := by
  obtain ⟨A, cap, r, a, b, c, h1, h2, h3, h4⟩ := h
  refine ⟨A, cap, r, a, b, c, h1, h2, fun h0 => ?_, fun i hi => ?_⟩
  · obtain ⟨e1, e2, e3⟩ := h3 h0
    exact ⟨e1, by omega, (hq r e3 e2).1⟩
  · obtain ⟨e1, e2, e3⟩ := h3 (by omega)
    have e := (hq r e3 e2).2
    rw [e, e, e, e]
    exact ⟨(h4 i hi).1, (h4 i hi).2.keep hs hq⟩
theorem RlsAt.under {P : Nat → Prop} {W W' : World} {rs : List Rul} {v : Value} (h : RlsAt P W rs v) (b : Below W.heap.size W W') : RlsAt P W' rs v :=
  h.keep b.size fun r hp hr => ⟨hp, fun j => b.cell (p := ⟨r, j, none⟩) hr⟩
theorem RlsAt.nil (P : Nat → Prop) (W : World) (A : Option Addr) (cap : Nat) : RlsAt P W [] (.slice A 0 cap) :=
  ⟨A, cap, 0, fun _ => .bool false, fun _ => .bool false, fun _ => .bool false, rfl, by simp, fun h => absurd h (by simp), fun i hi => absurd hi (by simp)⟩

/-- The cells of some rules. -/
def cells4 (vs : List (Value × Value × Value × Value)) : List Value := vs.flatMap fun v => [v.1, v.2.1, v.2.2.1, v.2.2.2]
theorem cells4_at (vs : List (Value × Value × Value × Value)) (i : Nat) (h : i < vs.length) : (cells4 vs)[i * 4]? = some vs[i].1 ∧ (cells4 vs)[i * 4 + 1]? = some vs[i].2.1 ∧ (cells4 vs)[i * 4 + 2]? = some vs[i].2.2.1 ∧ (cells4 vs)[i * 4 + 3]? = some vs[i].2.2.2 := by
  induction vs generalizing i with
  | nil => simp at h
  | cons v vs ih =>
    have e : cells4 (v :: vs) = v.1 :: v.2.1 :: v.2.2.1 :: v.2.2.2 :: cells4 vs := by simp [cells4]
    rw [e]
    cases i with
    | zero => exact ⟨rfl, rfl, rfl, rfl⟩
    | succ i =>
      have := ih i (by simpa using h)
      rw [show (i + 1) * 4 = i * 4 + 4 by omega]
      simpa using this
theorem cells4_snoc (vs : List (Value × Value × Value × Value)) (v : Value × Value × Value × Value) : cells4 (vs ++ [v]) = cells4 vs ++ [v.1, v.2.1, v.2.2.1, v.2.2.2] := by simp [cells4]

/-- A row of rules of the call's own, that may still grow: no node stands in the row itself. -/
def RItems (base : Nat) (W : World) (A : Option Addr) (cap : Nat) (acc : List Rul) : Prop :=
  ∃ vs : List (Value × Value × Value × Value), vs.length = acc.length ∧ W.ownsRow base 65 4 (.slice A acc.length cap) acc.length (cells4 vs) ∧
    ∀ (i : Nat) (h : i < acc.length) (h2 : i < vs.length), vs[i].1 = .string (Lx.mk acc[i].1) ∧ Nd (fun r => base ≤ r ∧ (Value.slice A acc.length cap).ownBlock ≠ some r) W acc[i].2 vs[i].2.1 vs[i].2.2.1 vs[i].2.2.2
theorem RItems.nil (base : Nat) (W : World) : RItems base W none 0 [] := ⟨[], rfl, World.ownsRow_nil _ _ _ _, fun i h => absurd h (by simp)⟩
theorem RItems.keep {base : Nat} {W W' : World} {A : Option Addr} {cap : Nat} {acc : List Rul} (h : RItems base W A cap acc) (hs : W.heap.size ≤ W'.heap.size) (hb : ∀ r, base ≤ r → r < W.heap.size → W'.heap[r]? = W.heap[r]?) : RItems base W' A cap acc := by
  obtain ⟨vs, h1, h2, h3⟩ := h
  refine ⟨vs, h1, ⟨h2.1, ?_⟩, fun i hi hi2 => ⟨(h3 i hi hi2).1, (h3 i hi hi2).2.keep hs fun r hp hr => ⟨hp, fun j => ?_⟩⟩⟩
  · rcases h2.2 with h4 | ⟨g, cp, cur, hv, hbr, hh, hrest⟩
    · exact .inl h4
    · exact .inr ⟨g, cp, cur, hv, hbr, (hb g hbr (heap_lt hh)).trans hh, hrest⟩
  · have := hb r hp.1 hr
    unfold World.cell?
    simp only [this]
/-- The row as rules. -/
theorem RItems.rls {base : Nat} {W : World} {A : Option Addr} {cap : Nat} {acc : List Rul} (h : RItems base W A cap acc) : RlsAt (fun r => base ≤ r) W acc (.slice A acc.length cap) := by
  obtain ⟨vs, h1, h2, h3⟩ := h
  rcases h2.2 with ⟨hv, hn⟩ | ⟨g, cp, cur, hv, hbr, hh, hnc, _⟩
  · have e : acc = [] := List.eq_nil_of_length_eq_zero hn
    subst e
    exact RlsAt.nil _ _ A cap
  · injection hv with hA _ hcp
    subst hA
    subst hcp
    have hcell := h2.cells (g := g) rfl
    refine ⟨some ⟨g, 0, none⟩, cap, g, fun i => (vs.getD i (.bool false, .bool false, .bool false, .bool false)).2.1, fun i => (vs.getD i (.bool false, .bool false, .bool false, .bool false)).2.2.1, fun i => (vs.getD i (.bool false, .bool false, .bool false, .bool false)).2.2.2, rfl, hnc, fun _ => ⟨rfl, heap_lt hh, hbr⟩, fun i hi => ?_⟩
    have e : vs.getD i (.bool false, .bool false, .bool false, .bool false) = vs[i]'(by omega) := by simp [List.getD, List.getElem?_eq_getElem (show i < vs.length by omega)]
    obtain ⟨c1, c2, c3, c4⟩ := cells4_at vs i (by omega)
    obtain ⟨n1, n2⟩ := h3 i hi (by omega)
    simp only [e]
    refine ⟨⟨?_, ?_, ?_, ?_⟩, n2.keep (Nat.le_refl _) fun r hp _ => ⟨hp.1, fun _ => rfl⟩⟩
    · rw [n1] at c1; have := hcell _ _ c1; rwa [Lx.add_row] at this
    · have := hcell _ _ c2; rwa [Lx.add_row] at this
    · have := hcell _ _ c3; rwa [Lx.add_row] at this
    · have := hcell _ _ c4; rwa [Lx.add_row] at this
theorem RItems.own_lt {base : Nat} {W : World} {A : Option Addr} {cap : Nat} {acc : List Rul} (h : RItems base W A cap acc) : ∀ k, (Value.slice A acc.length cap).ownBlock = some k → k < W.heap.size ∧ base ≤ k := by
  intro k hk
  obtain ⟨vs, _, ho, _⟩ := h
  refine ⟨?_, own_block ho k hk⟩
  rcases ho.2 with ⟨h1, _⟩ | ⟨q, _, _, h1, _, h3, _⟩
  · rw [h1] at hk; simp [Value.ownBlock] at hk
  · rw [h1] at hk
    simp [Value.ownBlock] at hk
    have := heap_lt h3
    omega
/-- Behind an append of one rule that was made behind the row. -/
theorem RItems.snoc {base lo : Nat} {W1 w4 : World} {A : Option Addr} {cap : Nat} {acc : List Rul} {n : List UInt8} {t : Tree} {x y z v' : Value} {o : Obj} (h : RItems base W1 A cap acc) (hlo : base ≤ lo) (hown : ∀ k, (Value.slice A acc.length cap).ownBlock = some k → k < lo) (hn : Nd (fun r => lo ≤ r) W1 t x y z)
    (hown4 : ∀ vs : List (Value × Value × Value × Value), W1.ownsRow base 65 4 (.slice A acc.length cap) acc.length (cells4 vs) → w4.ownsRow base 65 4 v' (acc.length + 1) (cells4 vs ++ [.string (Lx.mk n), x, y, z]))
    (hg : (W1.alloc o).grownBy w4 (Value.slice A acc.length cap).ownBlock) (hat : v'.ownBlock = (Value.slice A acc.length cap).ownBlock ∨ v'.ownBlock = some (W1.alloc o).heap.size) :
    ∃ A' cap', v' = .slice A' (acc.length + 1) cap' ∧ RItems base w4 A' cap' (acc ++ [(n, t)]) := by
  obtain ⟨vs, h1, h2, h3⟩ := h
  have ho := hown4 vs h2
  obtain ⟨A', cap', rfl⟩ := Lx.slice_of ho
  have hl : (acc ++ [(n, t)]).length = acc.length + 1 := by simp
  have hsz : W1.heap.size ≤ w4.heap.size := by have := hg.size; simp at this; omega
  have hcell : ∀ r j, r < W1.heap.size → (Value.slice A acc.length cap).ownBlock ≠ some r → w4.cell? ⟨r, j, none⟩ = W1.cell? ⟨r, j, none⟩ := fun r j hr hne => by
    have e := (hg.block r (by simp; omega) (fun e => hne e.symm)).trans (heap_alloc_old W1 o hr)
    unfold World.cell?
    simp only [e]
  refine ⟨A', cap', rfl, vs ++ [(.string (Lx.mk n), x, y, z)], by simp [h1], by rw [hl, cells4_snoc]; exact ho, fun i hi hi2 => ?_⟩
  rw [hl]
  have hne4 : ∀ r, r < W1.heap.size → (Value.slice A acc.length cap).ownBlock ≠ some r → (Value.slice A' (acc.length + 1) cap').ownBlock ≠ some r := fun r hr hne e => by
    rcases hat with h | h
    · rw [h] at e; exact hne e
    · rw [h] at e; injection e with e; simp at e; omega
  by_cases hi3 : i < acc.length
  · have e1 : (acc ++ [(n, t)])[i] = acc[i] := List.getElem_append_left hi3
    have e2 : (vs ++ [(.string (Lx.mk n), x, y, z)])[i] = vs[i]'(by omega) := List.getElem_append_left (by omega)
    rw [e1, e2]
    exact ⟨(h3 i hi3 (by omega)).1, (h3 i hi3 (by omega)).2.keep hsz fun r hp hr => ⟨⟨hp.1, hne4 r hr hp.2⟩, fun j => hcell r j hr hp.2⟩⟩
  · have hie : i = acc.length := by rw [hl] at hi; omega
    subst hie
    have e1 : (acc ++ [(n, t)])[acc.length]'hi = (n, t) := by simp
    have e2 : (vs ++ [(.string (Lx.mk n), x, y, z)])[acc.length]'hi2 = (.string (Lx.mk n), x, y, z) := by simp [← h1]
    rw [e1, e2]
    refine ⟨rfl, hn.keep hsz fun r hp hr => ?_⟩
    have hne : (Value.slice A acc.length cap).ownBlock ≠ some r := fun e => by have := hown r e; omega
    exact ⟨⟨by omega, hne4 r hr hne⟩, fun j => hcell r j hr hne⟩

theorem ruinfo : (Try.prog.info? 65).map (fun i => (i.zero, i.size, i.bytes)) = some (some (.agg #[.string ⟨#[]⟩, .int .i64 0, .string ⟨#[]⟩, .slice none 0 0]), 4, 64) := by kernel_rfl

/-- Within grammar: the result's block, and the grammar's, and its rules. -/
structure GrAt (W0 : World) (g r : Nat) (ts : List Tk) (cap : Nat) (s : List UInt8) (W : World) (A : Option Addr) (cp : Nat) (acc : List Rul) (i : Nat) : Prop where
  par : PAt W g r ts cap i 0
  res : W.heap[W0.heap.size]? = some (.cells #[.string ⟨#[]⟩, .slice none 0 0] 25 (0, 0))
  gv : W.heap[W0.heap.size + 1]? = some (.cells #[.string (Lx.mk s), .slice A acc.length cp] 25 (0, 0))
  items : RItems (W0.heap.size + 2) W A cp acc
  sep : Lx.Sep g W0.heap.size W0 W
  size : W0.heap.size + 2 ≤ W.heap.size
section
variable {W0 W W' : World} {g r : Nat} {ts : List Tk} {cap i j : Nat} {s : List UInt8} {A : Option Addr} {cp : Nat} {acc : List Rul}
theorem GrAt.start (h : PAt W g r ts cap i 0) : GrAt W g r ts cap [] ((W.alloc (.cells #[.string ⟨#[]⟩, .slice none 0 0] 25)).alloc (.cells #[.string ⟨#[]⟩, .slice none 0 0] 25)) none 0 [] i := by
  have hb : Below W.heap.size W ((W.alloc (.cells #[.string ⟨#[]⟩, .slice none 0 0] 25)).alloc (.cells #[.string ⟨#[]⟩, .slice none 0 0] 25)) := ((Below.refl _ _).alloc (Nat.le_refl _) _).alloc (by simp) _
  refine ⟨h.below hb, (heap_alloc_old _ _ (by simp)).trans (heap_alloc_new W _), ?_, RItems.nil _ _, Lx.Sep.of_below hb, by simp⟩
  have := heap_alloc_new (W.alloc (.cells #[.string ⟨#[]⟩, .slice none 0 0] 25)) (.cells #[.string ⟨#[]⟩, .slice none 0 0] 25)
  rw [heap_size_alloc'] at this
  exact this
theorem GrAt.bad (h : GrAt W0 g r ts cap s W A cp acc i) (k : Lx.Sep g W.heap.size W W') : Lx.Sep g W0.heap.size W0 W' := h.sep.trans (k.mono (by have := h.size; omega))
theorem GrAt.call (h : GrAt W0 g r ts cap s W A cp acc i) (hg : g < W0.heap.size) (p : PAt W' g r ts cap j 0) (k : Lx.Sep g W.heap.size W W') : GrAt W0 g r ts cap s W' A cp acc j :=
  ⟨p, (k.block _ (heap_lt h.res) (by omega)).trans h.res, (k.block _ (heap_lt h.gv) (by omega)).trans h.gv, h.items.keep k.size fun q hq hq2 => k.block q hq2 (by omega), h.bad k, Nat.le_trans h.size k.size⟩
theorem GrAt.drewN (h : GrAt W0 g r ts cap s W A cp acc i) (n : Nat) : GrAt W0 g r ts cap s (W.drewN n) A cp acc i :=
  ⟨h.par.drewN n, h.res, h.gv, h.items.keep (Nat.le_refl _) fun _ _ _ => rfl, sep_drewN h.sep n, h.size⟩
theorem GrAt.facts (h : GrAt W0 g r ts cap s W A cp acc i) : W.cell? ⟨W0.heap.size + 1, 0, none⟩ = some (.string (Lx.mk s)) ∧ W.cell? ⟨W0.heap.size + 1, 1, none⟩ = some (.slice A acc.length cp) ∧ ∀ j, W.frozen? ⟨W0.heap.size + 1, j, none⟩ = false :=
  ⟨cell_of_row _ _ 0 _ _ (0, 0) h.gv, cell_of_row _ _ 1 _ _ (0, 0) h.gv, fun j => by have h' := h.gv; simp [World.frozen?, h']⟩
theorem GrAt.rfacts (h : GrAt W0 g r ts cap s W A cp acc i) : W.cell? ⟨W0.heap.size, 0, none⟩ = some (.string ⟨#[]⟩) ∧ W.cell? ⟨W0.heap.size, 1, none⟩ = some (.slice none 0 0) ∧ ∀ j, W.frozen? ⟨W0.heap.size, j, none⟩ = false :=
  ⟨cell_of_row _ _ 0 _ _ (0, 0) h.res, cell_of_row _ _ 1 _ _ (0, 0) h.res, fun j => by have h' := h.res; simp [World.frozen?, h']⟩
/-- Whatever is stored into the grammar's own block turns nothing else. -/
theorem GrAt.set (h : GrAt W0 g r ts cap s W A cp acc i) (hg : g < W0.heap.size) (k : Nat) (v : Value) (s' : List UInt8) (A' : Option Addr) (cp' : Nat) (hit : RItems (W0.heap.size + 2) W A' cp' acc)
    (hv : (#[Value.string (Lx.mk s), Value.slice A acc.length cp]).setIfInBounds k v = #[.string (Lx.mk s'), .slice A' acc.length cp']) : GrAt W0 g r ts cap s' (W.setCell ⟨W0.heap.size + 1, k, none⟩ v) A' cp' acc i := by
  have hset : ∀ b, W0.heap.size + 1 ≠ b → (W.setCell ⟨W0.heap.size + 1, k, none⟩ v).heap[b]? = W.heap[b]? := fun b hb => Lx.set_keep W k v hb
  have hsz : (W.setCell ⟨W0.heap.size + 1, k, none⟩ v).heap.size = W.heap.size := by simp [World.setCell]
  have hlt := h.par.lt
  refine ⟨⟨(hset _ (by omega)).trans h.par.blk, ⟨by rw [hsz]; exact h.par.tok.1, fun q u hk => ?_⟩, h.par.le, hlt⟩, (hset _ (by omega)).trans h.res, by rw [← hv]; exact Lx.heap_set h.gv k v, hit.keep (by rw [hsz]; exact Nat.le_refl _) fun q hq _ => hset q (by omega), h.sep.setCell (.inr (by simp)) _, by rw [hsz]; exact h.size⟩
  have e := h.par.tok.2 q u hk
  have := hset r (by omega)
  unfold World.cell? at e ⊢
  simp only [this]
  exact e
end
end Go.Proofs.Ytakihbjfkpebcaa.Sx
