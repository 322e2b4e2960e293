/-
  FactsLong: the grammar that the law makes, while it grows.
-/
import Derived.Test.YtlkijnglpllcdaaFxLgM
import Derived.Laws.BytesArg
namespace Go.Proofs.Ytlkijnglpllcdaa.Fx
open Go.RowKit
set_option maxRecDepth 100000

/-- A text of two letters, out of a new row of two bytes. -/
theorem nm_new (i : Nat) (h : i < 100) (x y : Int) (hx : x = ((65 + i % 26 : Nat) : Int)) (hy : y = ((97 + i / 26 : Nat) : Int)) (W : World) :
    (convert 49 9 (.slice (some ⟨W.heap.size, 0, none⟩) 2 2)).run Try.prog (W.alloc (.cells #[.int .u8 x, .int .u8 y] 5)) = .ok (.string (nm i)) (W.alloc (.cells #[.int .u8 x, .int .u8 y] 5)) := by
  subst hx
  subst hy
  have hu : (UInt8.ofNat (65 + i % 26)).toNat = 65 + i % 26 := by simp; omega
  have hv : (UInt8.ofNat (97 + i / 26)).toNat = 97 + i / 26 := by simp; omega
  have := run_convert_bytes_back (P := Try.prog) (W.alloc (.cells #[.int .u8 ((65 + i % 26 : Nat) : Int), .int .u8 ((97 + i / 26 : Nat) : Int)] 5)) 49 9 5 ⟨W.heap.size, 0, none⟩ 2 [UInt8.ofNat (65 + i % 26), UInt8.ofNat (97 + i / 26)] Try.underlying49 Try.underlying5 Try.underlying9 (fun j hj => by
    refine Gn.row_new W [.int .u8 ((65 + i % 26 : Nat) : Int), .int .u8 ((97 + i / 26 : Nat) : Int)] _ _ rfl j _ ?_
    have hj : j < 2 := hj
    match j, hj with
    | 0, _ =>
      show some (Value.int .u8 ((65 + i % 26 : Nat) : Int)) = some (Value.int .u8 (((UInt8.ofNat (65 + i % 26)).toNat : Nat) : Int))
      rw [hu]
    | 1, _ =>
      show some (Value.int .u8 ((97 + i / 26 : Nat) : Int)) = some (Value.int .u8 (((UInt8.ofNat (97 + i / 26)).toNat : Nat) : Int))
      rw [hv])
  exact this

def nmsL (k : Nat) : List Value := ((List.range k).map nm).map Value.string
theorem nmsL_succ (k : Nat) : nmsL (k + 1) = nmsL k ++ [.string (nm k)] := by simp [nmsL, List.range_succ]
def pdsL (n k : Nat) : List Prd := (List.range k).map (pdL n)
theorem pdsL_succ (n k : Nat) : pdsL n (k + 1) = pdsL n k ++ [pdL n k] := by simp [pdsL, List.range_succ]
theorem pdsL_len (n k : Nat) : (pdsL n k).length = k := by simp [pdsL]
theorem PItems.mono {T : TypeId} {Q Q' : Nat → Prop} {base : Nat} {W : World} {v : Value} {acc : List Prd} {vs : List (Value × Value)} (h : PItems T Q base W v acc vs) (hq : ∀ r, r < W.heap.size → Q r → Q' r) : PItems T Q' base W v acc vs :=
  ⟨h.1, h.2.1, fun i hi hi2 => ⟨(h.2.2 i hi hi2).1, (h.2.2 i hi hi2).2.keep (Nat.le_refl _) fun r hp hr => ⟨⟨hq r hr hp.1, hp.2⟩, fun _ => rfl⟩⟩⟩
theorem own_of_block2 {W W' : World} {base n size : Nat} {e : TypeId} {v : Value} {xs : List Value} (h : W.ownsRow base e size v n xs) (hb : ∀ g, v.ownBlock = some g → W'.heap[g]? = W.heap[g]?) : W'.ownsRow base e size v n xs := by
  refine ⟨h.1, ?_⟩
  rcases h.2 with h2 | ⟨g, cp, cur, h2, h3, h4, h5⟩
  · exact .inl h2
  · exact .inr ⟨g, cp, cur, h2, h3, by rw [hb g (by rw [h2]; rfl)]; exact h4, h5⟩
structure LgN (V0 : World) (B B0 n : Nat) (va vp : Value) (ka kp : Nat) (vs : List (Value × Value)) (W : World) : Prop where
  lt : B0 < B
  box : W.heap[B]? = some (.cells #[.int .i64 0, .int .i64 0, va, .slice (some ⟨B0, 0, none⟩) 1 1, vp] 30 (0, 0))
  x : W.heap[B0]? = some (.cells #[.string ⟨#[120]⟩] 9 (0, 0))
  na : W.ownsRow (B + 1) 9 1 va ka (nmsL ka)
  pr : PItems 47 (fun r => B < r ∧ va.ownBlock ≠ some r) (B + 1) W vp (pdsL n kp) vs
  apart : ∀ g, va.ownBlock = some g → vp.ownBlock ≠ some g
  below : Below B0 V0 W
section
variable {V0 W w4 : World} {B B0 n : Nat} {va vp v' u : Value} {ka kp : Nat} {vs : List (Value × Value)}
theorem LgN.under (h : LgN V0 B B0 n va vp ka kp vs W) (b : Below W.heap.size W w4) : LgN V0 B B0 n va vp ka kp vs w4 :=
  ⟨h.lt, (b.block _ (Gn.heap_lt h.box)).trans h.box, (b.block _ (Gn.heap_lt h.x)).trans h.x, own_of_block h.na fun g hg => b.block g (own_base h.na hg).2, h.pr.keep b.size fun r hr _ => b.block r hr, h.apart, h.below.trans (b.mono (by have := Gn.heap_lt h.x; omega))⟩
theorem LgN.name (h : LgN V0 B B0 n va vp ka kp vs W) (ho : w4.ownsRow (B + 1) 9 1 v' (ka + 1) (nmsL ka ++ [.string (nm ka)])) (hg : W.grownBy w4 va.ownBlock) (hat : ∀ g, v'.ownBlock = some g → va.ownBlock = some g ∨ W.heap.size ≤ g) :
    LgN V0 B B0 n v' vp (ka + 1) kp vs (w4.setCell ⟨B, 2, none⟩ v') := by
  have hB := Gn.heap_lt h.box
  have hne : ∀ g, va.ownBlock = some g → B + 1 ≤ g ∧ g < W.heap.size := fun g hg => own_base h.na hg
  have hbx := (hg.block B hB (fun e => by have := (hne B e.symm).1; omega)).trans h.box
  have hset : ∀ q, B ≠ q → (w4.setCell ⟨B, 2, none⟩ v').heap[q]? = w4.heap[q]? := fun q hq => Gn.set_keep w4 2 v' hq
  have hsz : (w4.setCell ⟨B, 2, none⟩ v').heap.size = w4.heap.size := by simp [World.setCell]
  have hlt := h.lt
  refine ⟨h.lt, ?_, ?_, ?_, ?_, fun g h1 h2 => ?_, (h.below.grown hg (by omega) (fun j hj => by have := (hne j hj).1; omega)).setCell (Nat.le_of_lt h.lt) _⟩
  · have := Gn.heap_set hbx 2 v'
    exact this
  · exact ((hset B0 (by omega)).trans (hg.block B0 (Gn.heap_lt h.x) (fun e => by have := (hne B0 e.symm).1; omega))).trans h.x
  · rw [nmsL_succ]
    exact own_of_block ho fun q hq => hset q (by have := (own_base ho hq).1; omega)
  · have hv : ∀ q, vp.ownBlock = some q → B + 1 ≤ q ∧ q < W.heap.size := fun q hq => (h.pr.own_lt q hq).symm
    have h1 : PItems 47 (fun r => (B < r ∧ va.ownBlock ≠ some r) ∧ v'.ownBlock ≠ some r) (B + 1) W vp (pdsL n kp) vs := h.pr.mono fun r hr hq => ⟨hq, fun e => by
      rcases hat r e with h5 | h5
      · exact hq.2 h5
      · omega⟩
    have h2 : PItems 47 (fun r => (B < r ∧ va.ownBlock ≠ some r) ∧ v'.ownBlock ≠ some r) (B + 1) (w4.setCell ⟨B, 2, none⟩ v') vp (pdsL n kp) vs := by
      refine ⟨h1.1, own_of_block2 h1.2.1 fun q hq => ?_, fun i hi hi2 => ⟨(h1.2.2 i hi hi2).1, (h1.2.2 i hi hi2).2.keep (by rw [hsz]; exact hg.size) fun r hp hr => ⟨hp, fun j => Gn.cell_same ((hset r (by have := hp.1.1.1; omega)).trans (hg.block r hr fun e => hp.1.1.2 e.symm)) j⟩⟩⟩
      have := hv q hq
      exact (hset q (by omega)).trans (hg.block q this.2 fun e => h.apart q e.symm hq)
    exact h2.mono fun r _ hq => ⟨hq.1.1, hq.2⟩
  · rcases hat g h1 with h4 | h4
    · exact h.apart g h4 h2
    · have := (h.pr.own_lt g h2).1; omega
theorem LgN.prod (h : LgN V0 B B0 n va vp ka kp vs W) (hn : IntsAt (fun r => (B < r ∧ va.ownBlock ≠ some r) ∧ vp.ownBlock ≠ some r) W (pdL n kp).right u) (ho : w4.ownsRow (B + 1) 47 2 v' (kp + 1) (cells2 vs ++ [.int .i64 kp, u])) (hg : W.grownBy w4 vp.ownBlock) (hat : ∀ g, v'.ownBlock = some g → vp.ownBlock = some g ∨ W.heap.size ≤ g) :
    LgN V0 B B0 n va v' ka (kp + 1) (vs ++ [(.int .i64 kp, u)]) (w4.setCell ⟨B, 4, none⟩ v') := by
  have hB := Gn.heap_lt h.box
  have hv : ∀ q, vp.ownBlock = some q → B + 1 ≤ q ∧ q < W.heap.size := fun q hq => (h.pr.own_lt q hq).symm
  have hbx := (hg.block B hB (fun e => by have := (hv B e.symm).1; omega)).trans h.box
  have hset : ∀ q, B ≠ q → (w4.setCell ⟨B, 4, none⟩ v').heap[q]? = w4.heap[q]? := fun q hq => Gn.set_keep w4 4 v' hq
  have hsz : (w4.setCell ⟨B, 4, none⟩ v').heap.size = w4.heap.size := by simp [World.setCell]
  have hlt := h.lt
  refine ⟨h.lt, ?_, ?_, ?_, ?_, fun g h1 h2 => ?_, (h.below.grown hg (by omega) (fun j hj => by have := (hv j hj).1; omega)).setCell (Nat.le_of_lt h.lt) _⟩
  · have := Gn.heap_set hbx 4 v'
    exact this
  · exact ((hset B0 (by omega)).trans (hg.block B0 (Gn.heap_lt h.x) (fun e => by have := (hv B0 e.symm).1; omega))).trans h.x
  · exact own_of_block h.na fun q hq => by
      have h3 := own_base h.na hq
      exact (hset q (by omega)).trans (hg.block q h3.2 fun e => h.apart q hq e.symm)
  · rw [pdsL_succ]
    exact (h.pr.snoc (pdL n kp) hn (by rw [pdsL_len]; exact ho) hg hat).keep (by rw [hsz]; exact Nat.le_refl _) fun r _ hr => hset r (by rcases hr with h5 | h5 <;> omega)
  · rcases hat g h2 with h4 | h4
    · exact h.apart g h1 h4
    · have := (own_base h.na h1).2; omega
theorem LgN.at_ (h : LgN V0 B B0 n va vp (n + 1) (n + 1) vs W) : PgAt (fun r => B0 ≤ r) W (gL n) (.agg #[.int .i64 0, .int .i64 0, va, .slice (some ⟨B0, 0, none⟩) 1 1, vp]) := by
  have hlt := h.lt
  refine ⟨va, .slice (some ⟨B0, 0, none⟩) 1 1, vp, rfl, (StrsAt.of_own (l := (List.range (n + 1)).map nm) (by simp) h.na).keep (Nat.le_refl _) fun r hp _ => ⟨by have := hp.1; omega, fun _ => rfl⟩, ?_, h.pr.prds _ fun r hr => by
    rcases hr with h5 | h5 <;> omega⟩
  refine ⟨some ⟨B0, 0, none⟩, 1, B0, rfl, Nat.le_refl _, fun _ => ⟨rfl, Gn.heap_lt h.x, Nat.le_refl _⟩, fun i hi => ?_⟩
  have hi : i < 1 := hi
  obtain rfl : i = 0 := by omega
  exact cell_of_row _ _ 0 _ _ (0, 0) h.x
end
end Go.Proofs.Ytlkijnglpllcdaa.Fx
