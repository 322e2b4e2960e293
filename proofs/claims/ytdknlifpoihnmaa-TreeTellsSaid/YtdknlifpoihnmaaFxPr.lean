/-
  Within the law's made: the input's numbers, and a grammar in a box of its own whose productions grow.
-/
import Derived.Test.YtdknlifpoihnmaaFxMake
import Derived.Deep.RegionLaw
import Derived.Deep.MidRow
import Derived.Maps.AppendAt
namespace Go.Proofs.Ytdknlifpoihnmaa.Fx
open Go.RowKit
set_option maxRecDepth 100000

/-- Numbers of the input. -/
def NumsIn (W : World) (l : List Int) (v : Value) : Prop :=
  ∃ (A : Option Addr) (cap b off : Nat), v = .slice A l.length cap ∧ (0 < l.length → A = some ⟨b, off, none⟩ ∧ b < W.heap.size) ∧ ∀ (i : Nat) (h : i < l.length), W.cell? ⟨b, off + i, none⟩ = some (.int .i64 l[i])
/-- Rows of numbers of the input. -/
def RowsIn (W : World) (ls : List (List Int)) (v : Value) : Prop :=
  ∃ (A : Option Addr) (cap b off : Nat) (f : Nat → Value), v = .slice A ls.length cap ∧ (0 < ls.length → A = some ⟨b, off, none⟩ ∧ b < W.heap.size) ∧ ∀ (i : Nat) (h : i < ls.length), W.cell? ⟨b, off + i, none⟩ = some (f i) ∧ NumsIn W ls[i] (f i)
theorem NumsIn.under {W W' : World} {l : List Int} {v : Value} (h : NumsIn W l v) (b : Below W.heap.size W W') : NumsIn W' l v := by
  obtain ⟨A, cap, c, off, h1, h2, h3⟩ := h
  refine ⟨A, cap, c, off, h1, fun h0 => ⟨(h2 h0).1, Nat.lt_of_lt_of_le (h2 h0).2 b.size⟩, fun i hi => ?_⟩
  exact (b.cell (p := ⟨c, off + i, none⟩) (h2 (by omega)).2).trans (h3 i hi)
theorem RowsIn.under {W W' : World} {ls : List (List Int)} {v : Value} (h : RowsIn W ls v) (b : Below W.heap.size W W') : RowsIn W' ls v := by
  obtain ⟨A, cap, c, off, f, h1, h2, h3⟩ := h
  refine ⟨A, cap, c, off, f, h1, fun h0 => ⟨(h2 h0).1, Nat.lt_of_lt_of_le (h2 h0).2 b.size⟩, fun i hi => ?_⟩
  exact ⟨(b.cell (p := ⟨c, off + i, none⟩) (h2 (by omega)).2).trans (h3 i hi).1, (h3 i hi).2.under b⟩

/-- Own texts read as texts. -/
theorem StrsAt.of_own {W : World} {base : Nat} {e : TypeId} {v : Value} {l : List ByteArray} {n : Nat} (hn : l.length = n) (h : W.ownsRow base e 1 v n (l.map Value.string)) : StrsAt (fun b => base ≤ b ∧ v.ownBlock = some b) W l v := by
  subst hn
  rcases h.2 with ⟨rfl, hn⟩ | ⟨g, cp, cur, rfl, hbr, hh, hnc, _⟩
  · have e : l = [] := List.eq_nil_of_length_eq_zero hn
    subst e
    exact ⟨none, 0, 0, rfl, by simp, fun h => absurd h (by simp), fun i h => absurd h (by simp)⟩
  · have hc := h.cells (g := g) rfl
    refine ⟨_, cp, g, rfl, hnc, fun _ => ⟨rfl, Gn.heap_lt hh, hbr, rfl⟩, fun i hi => ?_⟩
    have := hc i (.string l[i]) (by simp [hi])
    rwa [Gn.add_row] at this
theorem IntsAt.of_own2 {W : World} {base : Nat} {e : TypeId} {v : Value} {l : List Int} {n : Nat} (hn : l.length = n) (h : W.ownsRow base e 1 v n (l.map (Value.int .i64))) : IntsAt (fun b => base ≤ b ∧ v.ownBlock = some b) W l v := by
  subst hn
  rcases h.2 with ⟨rfl, hn⟩ | ⟨g, cp, cur, rfl, hbr, hh, hnc, _⟩
  · have e : l = [] := List.eq_nil_of_length_eq_zero hn
    subst e
    exact ⟨none, 0, 0, rfl, by simp, fun h => absurd h (by simp), fun i h => absurd h (by simp)⟩
  · have hc := h.cells (g := g) rfl
    refine ⟨_, cp, g, rfl, hnc, fun _ => ⟨rfl, Gn.heap_lt hh, hbr, rfl⟩, fun i hi => ?_⟩
    have := hc i (.int .i64 l[i]) (by simp [hi])
    rwa [Gn.add_row] at this

def cells2 (vs : List (Value × Value)) : List Value := vs.flatMap fun v => [v.1, v.2]
theorem cells2_at (vs : List (Value × Value)) (i : Nat) (h : i < vs.length) : (cells2 vs)[i * 2]? = some vs[i].1 ∧ (cells2 vs)[i * 2 + 1]? = some vs[i].2 := by
  induction vs generalizing i with
  | nil => simp at h
  | cons v vs ih =>
    have e : cells2 (v :: vs) = v.1 :: v.2 :: cells2 vs := by simp [cells2]
    rw [e]
    cases i with
    | zero => exact ⟨rfl, rfl⟩
    | succ i =>
      have := ih i (by simpa using h)
      rw [show (i + 1) * 2 = i * 2 + 2 by omega]
      simpa using this
theorem cells2_snoc (vs : List (Value × Value)) (v : Value × Value) : cells2 (vs ++ [v]) = cells2 vs ++ [v.1, v.2] := by simp [cells2]

/-- A row of productions that may still grow; their right sides lie elsewhere, in blocks of which Q holds. -/
def PItems (T : TypeId) (Q : Nat → Prop) (base : Nat) (W : World) (v : Value) (acc : List Prd) (vs : List (Value × Value)) : Prop :=
  vs.length = acc.length ∧ W.ownsRow base T 2 v acc.length (cells2 vs) ∧
    ∀ (i : Nat) (h : i < acc.length) (h2 : i < vs.length), vs[i].1 = .int .i64 acc[i].left ∧ IntsAt (fun r => Q r ∧ v.ownBlock ≠ some r) W acc[i].right vs[i].2
section
variable {T : TypeId} {Q : Nat → Prop} {base : Nat} {W W' w4 : World} {v v' u : Value} {acc : List Prd} {vs : List (Value × Value)}
theorem PItems.nil (T : TypeId) (Q : Nat → Prop) (base : Nat) (W : World) : PItems T Q base W (.slice none 0 0) [] [] := ⟨rfl, World.ownsRow_nil _ _ _ _, fun i h => absurd h (by simp)⟩
theorem PItems.keep (h : PItems T Q base W v acc vs) (hs : W.heap.size ≤ W'.heap.size) (hb : ∀ r, r < W.heap.size → (base ≤ r ∨ Q r) → W'.heap[r]? = W.heap[r]?) : PItems T Q base W' v acc vs := by
  obtain ⟨h1, h2, h3⟩ := h
  refine ⟨h1, ⟨h2.1, ?_⟩, fun i hi hi2 => ⟨(h3 i hi hi2).1, (h3 i hi hi2).2.keep hs fun r hp hr => ⟨hp, fun j => Gn.cell_same (hb r hr (.inr hp.1)) j⟩⟩⟩
  rcases h2.2 with h4 | ⟨g, cp, cur, hv, hbr, hh, hrest⟩
  · exact .inl h4
  · exact .inr ⟨g, cp, cur, hv, hbr, (hb g (Gn.heap_lt hh) (.inl hbr)).trans hh, hrest⟩
theorem PItems.prds (h : PItems T Q base W v acc vs) (R : Nat → Prop) (hq : ∀ r, base ≤ r ∨ Q r → R r) : PrdsAt R W acc v := by
  obtain ⟨h1, h2, h3⟩ := h
  rcases h2.2 with ⟨hv, hn⟩ | ⟨g, cp, cur, hv, hbr, hh, hnc, _⟩
  · have e : acc = [] := List.eq_nil_of_length_eq_zero hn
    subst e
    subst hv
    exact ⟨none, 0, 0, fun _ => .bool false, rfl, by simp, fun h => absurd h (by simp), fun i hi => absurd hi (by simp)⟩
  · subst hv
    have hcell := h2.cells (g := g) rfl
    refine ⟨some ⟨g, 0, none⟩, cp, g, fun i => (vs.getD i (.bool false, .bool false)).2, rfl, hnc, fun _ => ⟨rfl, Gn.heap_lt hh, hq g (.inl hbr)⟩, fun i hi => ?_⟩
    have e : vs.getD i (.bool false, .bool false) = vs[i]'(by omega) := by simp [List.getD, List.getElem?_eq_getElem (show i < vs.length by omega)]
    obtain ⟨c1, c2⟩ := cells2_at vs i (by omega)
    obtain ⟨n1, n2⟩ := h3 i hi (by omega)
    simp only [e]
    refine ⟨?_, ?_, n2.keep (Nat.le_refl _) fun r hp _ => ⟨hq r (.inr hp.1), fun _ => rfl⟩⟩
    · rw [n1] at c1; have := hcell _ _ c1; rwa [Gn.add_row] at this
    · have := hcell _ _ c2; rwa [Gn.add_row] at this
theorem PItems.own_lt (h : PItems T Q base W v acc vs) : ∀ k, v.ownBlock = some k → k < W.heap.size ∧ base ≤ k := fun k hk => ⟨Gn.own_lt h.2.1 k hk, Gn.own_block h.2.1 k hk⟩
/-- Behind an append of one production. -/
theorem PItems.snoc (h : PItems T Q base W v acc vs) (p : Prd) (hn : IntsAt (fun r => Q r ∧ v.ownBlock ≠ some r) W p.right u) (ho : w4.ownsRow base T 2 v' (acc.length + 1) (cells2 vs ++ [.int .i64 p.left, u]))
    (hg : W.grownBy w4 v.ownBlock) (hat : ∀ g, v'.ownBlock = some g → v.ownBlock = some g ∨ W.heap.size ≤ g) : PItems T Q base w4 v' (acc ++ [p]) (vs ++ [(.int .i64 p.left, u)]) := by
  obtain ⟨h1, h2, h3⟩ := h
  have hl : (acc ++ [p]).length = acc.length + 1 := by simp
  have mv : ∀ {l : List Int} {x : Value}, IntsAt (fun r => Q r ∧ v.ownBlock ≠ some r) W l x → IntsAt (fun r => Q r ∧ v'.ownBlock ≠ some r) w4 l x := fun hx => hx.keep hg.size fun r hp hr => ⟨⟨hp.1, fun e => by
    rcases hat r e with h5 | h5
    · exact hp.2 h5
    · omega⟩, fun j => Gn.cell_same (hg.block r hr fun e => hp.2 e.symm) j⟩
  refine ⟨by simp [h1], by rw [hl, cells2_snoc]; exact ho, fun i hi hi2 => ?_⟩
  by_cases hi3 : i < acc.length
  · have e1 : (acc ++ [p])[i] = acc[i] := List.getElem_append_left hi3
    have e2 : (vs ++ [(.int .i64 p.left, u)])[i] = vs[i]'(by omega) := List.getElem_append_left (by omega)
    rw [e1, e2]
    exact ⟨(h3 i hi3 (by omega)).1, mv (h3 i hi3 (by omega)).2⟩
  · have hie : i = acc.length := by rw [hl] at hi; omega
    subst hie
    have e1 : (acc ++ [p])[acc.length]'hi = p := by simp
    have e2 : (vs ++ [(.int .i64 p.left, u)])[acc.length]'hi2 = (.int .i64 p.left, u) := by simp [← h1]
    rw [e1, e2]
    exact ⟨rfl, mv hn⟩
end

/-- A grammar in its box B, while its productions grow. -/
structure MkP (TG TP : TypeId) (V0 : World) (S0 B : Nat) (st n : Int) (va vb vp : Value) (ns ts : List ByteArray) (l : List Prd) (vs : List (Value × Value)) (W : World) : Prop where
  low : S0 ≤ B
  box : W.heap[B]? = some (.cells #[.int .i64 st, .int .i64 n, va, vb, vp] TG (0, 0))
  names : StrsAt (fun r => (S0 ≤ r ∧ r ≠ B) ∧ vp.ownBlock ≠ some r) W ns va
  terms : StrsAt (fun r => (S0 ≤ r ∧ r ≠ B) ∧ vp.ownBlock ≠ some r) W ts vb
  prods : PItems TP (fun r => S0 ≤ r ∧ r ≠ B) (B + 1) W vp l vs
  below : Below B V0 W
section
variable {TG TP : TypeId} {V0 W w4 : World} {S0 B : Nat} {st n : Int} {va vb vp v' u : Value} {ns ts : List ByteArray} {l : List Prd} {vs : List (Value × Value)}
theorem MkP.under (h : MkP TG TP V0 S0 B st n va vb vp ns ts l vs W) (b : Below W.heap.size W w4) : MkP TG TP V0 S0 B st n va vb vp ns ts l vs w4 :=
  ⟨h.low, (b.block _ (Gn.heap_lt h.box)).trans h.box, h.names.under b, h.terms.under b, h.prods.keep b.size fun r hr _ => b.block r hr, h.below.trans (b.mono (by have := Gn.heap_lt h.box; omega))⟩
theorem MkP.put (h : MkP TG TP V0 S0 B st n va vb vp ns ts l vs W) (p : Prd) (hn : IntsAt (fun r => (S0 ≤ r ∧ r ≠ B) ∧ vp.ownBlock ≠ some r) W p.right u) (ho : w4.ownsRow (B + 1) TP 2 v' (l.length + 1) (cells2 vs ++ [.int .i64 p.left, u]))
    (hg : W.grownBy w4 vp.ownBlock) (hat : ∀ g, v'.ownBlock = some g → vp.ownBlock = some g ∨ W.heap.size ≤ g) : MkP TG TP V0 S0 B st n va vb v' ns ts (l ++ [p]) (vs ++ [(.int .i64 p.left, u)]) (w4.setCell ⟨B, 4, none⟩ v') := by
  have hB := Gn.heap_lt h.box
  have hbx := (hg.block B hB (fun e => by have := (h.prods.own_lt B e.symm).2; omega)).trans h.box
  have hset : ∀ q, B ≠ q → (w4.setCell ⟨B, 4, none⟩ v').heap[q]? = w4.heap[q]? := fun q hq => Gn.set_keep w4 4 v' hq
  have hsz : (w4.setCell ⟨B, 4, none⟩ v').heap.size = w4.heap.size := by simp [World.setCell]
  have mv : ∀ {l : List ByteArray} {x : Value}, StrsAt (fun r => (S0 ≤ r ∧ r ≠ B) ∧ vp.ownBlock ≠ some r) W l x → StrsAt (fun r => (S0 ≤ r ∧ r ≠ B) ∧ v'.ownBlock ≠ some r) (w4.setCell ⟨B, 4, none⟩ v') l x := fun hx => hx.keep (by rw [hsz]; exact hg.size) fun r hp hr => ⟨⟨hp.1, fun e => by
    rcases hat r e with h5 | h5
    · exact hp.2 h5
    · omega⟩, fun j => Gn.cell_same ((hset r (Ne.symm hp.1.2)).trans (hg.block r hr fun e => hp.2 e.symm)) j⟩
  refine ⟨h.low, ?_, mv h.names, mv h.terms, (h.prods.snoc p hn ho hg hat).keep (by rw [hsz]; exact Nat.le_refl _) fun r _ hr => hset r ?_, (h.below.grown hg (by omega) (fun j hj => by have := (h.prods.own_lt j hj).2; omega)).setCell (Nat.le_refl B) _⟩
  · have := Gn.heap_set hbx 4 v'
    exact this
  · rcases hr with h5 | h5
    · omega
    · exact Ne.symm h5.2
theorem MkP.at_ (h : MkP TG TP V0 S0 B st n va vb vp ns ts l vs W) : PgAt (fun r => S0 ≤ r) W ⟨st, n, ns, ts, l⟩ (.agg #[.int .i64 st, .int .i64 n, va, vb, vp]) :=
  ⟨va, vb, vp, rfl, h.names.keep (Nat.le_refl _) fun r hp _ => ⟨hp.1.1, fun _ => rfl⟩, h.terms.keep (Nat.le_refl _) fun r hp _ => ⟨hp.1.1, fun _ => rfl⟩,
    h.prods.prds _ fun r hr => by
      rcases hr with h5 | h5
      · have := h.low; omega
      · exact h5.1⟩
end

/-- What holds of the productions made so far: their left sides are below k. -/
structure GoodP (n t : Nat) (k : Int) (l : List Prd) : Prop where
  left : ∀ p ∈ l, 0 ≤ p.left ∧ p.left < k
  short : ∀ p ∈ l, p.right.length ≤ 6
  known : ∀ p ∈ l, ∀ s ∈ p.right, -(t : Int) ≤ s ∧ s < n
  order : sortedB l = true
theorem sortedB_snoc (p : Prd) : ∀ l : List Prd, sortedB l = true → (∀ q ∈ l, q.left ≤ p.left) → sortedB (l ++ [p]) = true
  | [], _, _ => rfl
  | [a], _, h => by simp [sortedB, h a (by simp)]
  | a :: b :: r, h1, h2 => by
    rw [sortedB, Bool.and_eq_true] at h1
    have := sortedB_snoc p (b :: r) h1.2 fun q hq => h2 q (by simp at hq ⊢; exact .inr hq)
    show sortedB (a :: b :: (r ++ [p])) = true
    rw [sortedB, Bool.and_eq_true]
    exact ⟨h1.1, this⟩
theorem GoodP.nil (n t : Nat) (k : Int) : GoodP n t k [] := ⟨by simp, by simp, by simp, rfl⟩
theorem GoodP.mono {n t : Nat} {k j : Int} {l : List Prd} (h : GoodP n t k l) (hj : k ≤ j) : GoodP n t j l := ⟨fun p hp => ⟨(h.left p hp).1, by have := (h.left p hp).2; omega⟩, h.short, h.known, h.order⟩
theorem GoodP.snoc {n t : Nat} {k : Nat} {l : List Prd} {rs : List Int} (h : GoodP n t ((k : Int) + 1) l) (h1 : rs.length ≤ 6) (h2 : ∀ s ∈ rs, -(t : Int) ≤ s ∧ s < n) : GoodP n t ((k : Int) + 1) (l ++ [⟨k, rs⟩]) := by
  have key : ∀ p ∈ l ++ [(⟨k, rs⟩ : Prd)], p ∈ l ∨ p = ⟨k, rs⟩ := fun p hp => by simpa using hp
  refine ⟨fun p hp => ?_, fun p hp => ?_, fun p hp => ?_, sortedB_snoc _ _ h.order fun q hq => ?_⟩
  · rcases key p hp with hp | rfl
    · exact h.left p hp
    · exact ⟨by show (0 : Int) ≤ (k : Int); omega, by show (k : Int) < _; omega⟩
  · rcases key p hp with hp | rfl
    · exact h.short p hp
    · exact h1
  · rcases key p hp with hp | rfl
    · exact h.known p hp
    · exact h2
  · have := (h.left q hq).2
    show q.left ≤ (k : Int)
    omega
theorem GoodP.made {n t : Nat} {st : Int} {l : List Prd} (hn : 1 ≤ n) (hn8 : n ≤ 8) (ht : t ≤ 3) (h0 : 0 ≤ st) (h1 : st < n) (hl : l.length ≤ 192) (h : GoodP n t n l) : Made ⟨st, n, (List.range n).map (letter 65), (List.range t).map (letter 97), l⟩ := by
  refine ⟨by simp, by simp, ⟨by simp; omega, by simp; omega, by simp; omega, hl⟩, by simp, ⟨h0, by simp; omega⟩, fun p hp => ?_, h.short, fun p hp s hs => ?_, h.order⟩
  · have := h.left p hp; simpa using this
  · have := h.known p hp s hs; simpa using this
theorem sinfo1 : (Try.prog.info? 9).map (fun i => (i.zero, i.size, i.bytes)) = some (some (.string ⟨#[]⟩), 1, 16) := by kernel_rfl
/-- append of a row of texts, empty or not, onto an own row. -/
theorem run_append_strs (t : TypeId) (w : World) (base : Nat) (v : Value) (n : Nat) (xs : List Value) (hown : w.ownsRow base 9 1 v n xs) (P : Nat → Prop) (l : List ByteArray) (u : Value) (h : StrsAt P w l u) (hm : n + l.length ≤ 4398046511104) (hb : base ≤ w.heap.size) :
    ∃ v' w', (Builtin.append_ #[28, 28] t #[v, u]).run Try.prog w = .ok v' w' ∧ w'.ownsRow base 9 1 v' (n + l.length) (xs ++ l.map Value.string) ∧ w.grownBy w' v.ownBlock ∧ (v'.ownBlock = v.ownBlock ∨ v'.ownBlock = some w.heap.size) := by
  obtain ⟨i0, hi0, hz0, hz1, hz2⟩ := info_parts sinfo1
  obtain ⟨A, cap, b, rfl, hcap, h3, h4⟩ := h
  cases A with
  | none =>
    have hl : l.length = 0 := by
      rcases Nat.eq_zero_or_pos l.length with h0 | h0
      · exact h0
      · obtain ⟨h5, _⟩ := h3 h0; cases h5
    have e := List.eq_nil_of_length_eq_zero hl
    subst e
    refine ⟨v, w, ?_, by simpa using hown, ⟨rfl, rfl, rfl, Nat.le_refl _, fun _ _ _ => rfl⟩, .inl rfl⟩
    rcases hown.2 with ⟨rfl, rfl⟩ | ⟨g, cap, cur, rfl, _, _, hnc, _⟩
    · simp [Builtin.append_, run_underlying Try.underlying28, sizeOf, typeInfo, hi0, Builtin.lenOf, Builtin.firstCells]
    · simp [Builtin.append_, run_underlying Try.underlying28, sizeOf, typeInfo, hi0, Builtin.lenOf, Builtin.firstCells, hnc, storeCells]
  | some ad =>
    obtain ⟨v', w', h1, h2, h5, _, h6⟩ := run_append_own_at (P := Try.prog) w base 28 t 9 i0 (.string ⟨#[]⟩) 1 16 Try.underlying28 hi0 hz0 hz1 hz2 rfl (by decide) v n xs hown ad l.length cap (l.map Value.string) (by simp) (fun j u hj => by
      obtain ⟨h0, hj2⟩ : ∃ h0 : j < l.length, Value.string l[j] = u := by
        rw [List.getElem?_map] at hj
        rcases Nat.lt_or_ge j l.length with h0 | h0
        · rw [List.getElem?_eq_getElem h0] at hj; exact ⟨h0, by injection hj⟩
        · rw [List.getElem?_eq_none h0] at hj; cases hj
      obtain ⟨e1, _⟩ := h3 (by omega)
      injection e1 with e1
      subst e1
      rw [Gn.add_row, h4 j h0, hj2]) (by simp [Value.oneCell']) (by unfold maxLen; omega) (by omega) hb
    exact ⟨v', w', h1, h2, h5, h6⟩
theorem step_append_strs {ops : Array Oper} {o : Oper} {a : Act} {K : Act → World → Prop} {Q : Exit → Act → World → Prop} {E : Prop} (w : World) (hgd : o.guard = none) (s x : Operand)
    (ho : o.op = .call { callee := .builtin .append, args := #[s, x], argTypes := #[28, 28] })
    (base : Nat) (v : Value) (n : Nat) (xs : List Value) (hs : a.eval s = v) (hown : w.ownsRow base 9 1 v n xs) (P : Nat → Prop) (l : List ByteArray) (u : Value) (hx : a.eval x = u) (hi : StrsAt P w l u) (hm : n + l.length ≤ 4398046511104) (hb : base ≤ w.heap.size)
    (h : ∀ v' w', w'.ownsRow base 9 1 v' (n + l.length) (xs ++ l.map Value.string) → w.grownBy w' v.ownBlock → (v'.ownBlock = v.ownBlock ∨ v'.ownBlock = some w.heap.size) → K (a.put o.dst v') w') :
    if Region.wanted o (yielded ops a.tmps) = true then Oper.wp Try.prog o a w K Q else E := by
  have hw : Region.wanted o (yielded ops a.tmps) = true := by simp [Region.wanted, hgd]
  rw [if_pos hw]
  obtain ⟨v', w', hr, h2, h3, h4⟩ := run_append_strs o.type w base v n xs hown P l u hi hm hb
  unfold Oper.wp execOp
  simp only [ho, resolve, invoke, builtin, Sem.run_bind, Sem.run_pure, Result.andThen_ok, List.map_toArray, List.map_cons, List.map_nil, hs, hx, hr]
  exact h v' w' h2 h3 h4
theorem heap_new (w : World) (o : Obj) (g : Nat) (hg : g = w.heap.size) : (w.alloc o).heap[g]? = some o := by subst hg; exact heap_alloc_new w o
theorem own_empty {w : World} {base g : Nat} {T : TypeId} (h : w.heap[g]? = some (.cells #[] T (0, 0))) (hb : base ≤ g) : w.ownsRow base T 1 (.slice (some ⟨g, 0, none⟩) 0 0) 0 [] :=
  ⟨rfl, .inr ⟨g, 0, #[], rfl, hb, h, Nat.le_refl _, Nat.zero_le _, rfl, rfl⟩⟩
theorem results_cells2 {P : Program} {fn : Func} {p q : Tmp} {ty uy : TypeId} (h : fn.results = #[.cell p ty, .cell q uy]) (tmps : Array Value) (w : World) (g k : Nat) (t u : TypeId) (cs ds : Array Value) (fr fs : Nat × Nat) (d e : TypeDesc)
    (hp : tmps.getD p undef = .pointer (some ⟨g, 0, none⟩)) (hg : w.heap[g]? = some (.cells cs t fr)) (hu : P.underlying ty = some d) (hd : (match d with | .struct _ | .array _ _ => true | _ => false) = true) (hi : (P.info? ty).map (·.size) = some cs.size)
    (hq : tmps.getD q undef = .pointer (some ⟨k, 0, none⟩)) (hk : w.heap[k]? = some (.cells ds u fs)) (hv : P.underlying uy = some e) (he : (match e with | .struct _ | .array _ _ => true | _ => false) = true) (hj : (P.info? uy).map (·.size) = some ds.size) :
    (results fn tmps).run P w = .ok (.tuple #[.agg cs, .agg ds]) w := by
  have hp' : tmps[p]?.getD undef = .pointer (some ⟨g, 0, none⟩) := by simpa using hp
  have hq' : tmps[q]?.getD undef = .pointer (some ⟨k, 0, none⟩) := by simpa using hq
  simp [results, h, hp', hq', asAddr, run_loadVar_row w g t ty cs fr d hg hu hd hi, run_loadVar_row w k u uy ds fs e hk hv he hj]
theorem setCells5 {w : World} {b : Nat} {z0 z1 z2 z3 z4 c0 c1 c2 c3 c4 : Value} {T : TypeId} (h : w.heap[b]? = some (.cells #[z0, z1, z2, z3, z4] T (0, 0))) :
    (w.setCells b 0 [c0, c1, c2, c3, c4]).heap[b]? = some (.cells #[c0, c1, c2, c3, c4] T (0, 0)) ∧ (∀ k, b ≠ k → (w.setCells b 0 [c0, c1, c2, c3, c4]).heap[k]? = w.heap[k]?) ∧ (∀ c, c ≤ b → Below c w (w.setCells b 0 [c0, c1, c2, c3, c4])) ∧ (w.setCells b 0 [c0, c1, c2, c3, c4]).heap.size = w.heap.size := by
  have e : w.setCells b 0 [c0, c1, c2, c3, c4] = ((((w.setCell ⟨b, 0, none⟩ c0).setCell ⟨b, 1, none⟩ c1).setCell ⟨b, 2, none⟩ c2).setCell ⟨b, 3, none⟩ c3).setCell ⟨b, 4, none⟩ c4 := rfl
  rw [e]
  refine ⟨?_, fun k hk => ?_, fun c hc => ?_, by simp [World.setCell]⟩
  · have h0 := Gn.heap_set h 0 c0
    have h1 := Gn.heap_set h0 1 c1
    have h2 := Gn.heap_set h1 2 c2
    have h3 := Gn.heap_set h2 3 c3
    exact Gn.heap_set h3 4 c4
  · rw [Gn.set_keep _ _ _ hk, Gn.set_keep _ _ _ hk, Gn.set_keep _ _ _ hk, Gn.set_keep _ _ _ hk, Gn.set_keep _ _ _ hk]
  · exact (((((Below.refl c w).setCell hc _).setCell hc _).setCell hc _).setCell hc _).setCell hc _
/-- A store of a struct of five cells into its own box, in a region that draws. -/
theorem step_store_box {ops : Array Oper} {o : Oper} {a : Act} {K : Act → World → Prop} {Q : Exit → Act → World → Prop} {E : Prop} (w : World) (hgd : o.guard = none) (ty : TypeId) (x y : Operand) (ho : o.op = .store ty x y)
    (b : Nat) (c0 c1 c2 c3 c4 z0 z1 z2 z3 z4 : Value) (T : TypeId) (hx : a.eval x = .pointer (some ⟨b, 0, none⟩)) (hy : a.eval y = .agg #[c0, c1, c2, c3, c4]) (hb : w.heap[b]? = some (.cells #[z0, z1, z2, z3, z4] T (0, 0)))
    (hi : (Try.prog.info? ty).map (·.size) = some 5) (h1 : #[c0, c1, c2, c3, c4].all (·.oneCell') = true)
    (h : ∀ w', w'.heap[b]? = some (.cells #[c0, c1, c2, c3, c4] T (0, 0)) → (∀ k, b ≠ k → w'.heap[k]? = w.heap[k]?) → (∀ c, c ≤ b → Below c w w') → w'.heap.size = w.heap.size → K (a.put o.dst undef) w') :
    if Region.wanted o (yielded ops a.tmps) = true then Oper.wp Try.prog o a w K Q else E := by
  have hw : Region.wanted o (yielded ops a.tmps) = true := by simp [Region.wanted, hgd]
  rw [if_pos hw]
  obtain ⟨q1, q2, q3, q4⟩ := setCells5 (c0 := c0) (c1 := c1) (c2 := c2) (c3 := c3) (c4 := c4) hb
  refine wp_store_mid (P := Try.prog) ty x y ho b 0 #[c0, c1, c2, c3, c4] hx hy (fun j hj => ⟨?_, Gn.frozen_row hb _⟩) hi h1 (h _ q1 q2 q3 q4)
  have hj : j < 5 := hj
  rw [cell_of_row _ _ (0 + j) _ _ (0, 0) hb]
  rw [Nat.zero_add]
  match j, hj with
  | 0, _ => rfl
  | 1, _ => rfl
  | 2, _ => rfl
  | 3, _ => rfl
  | 4, _ => rfl
end Go.Proofs.Ytdknlifpoihnmaa.Fx
