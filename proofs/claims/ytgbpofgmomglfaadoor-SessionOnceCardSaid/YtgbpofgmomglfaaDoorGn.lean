/-
  General laws on worlds, rows and results that walks of any package lean on.
-/
import Derived.Test.YtgbpofgmomglfaaDoorChecked
import Derived.Test.YtgbpofgmomglfaaDoorShelf
import Derived.Lib.Hide
import Derived.Below
import Derived.BigQuiet
import Derived.Deep.QuietTactic
import Derived.RegionTactic
import Derived.Deep.RegionHeld3
import Derived.Deep.AppendLies
import Derived.Maps.AppendAt
import Derived.StillTailTactics
import Derived.Deep.DeepCutAuto
import Derived.Deep.CutBlock
namespace Go.Proofs.YtgbpofgmomglfaaDoor.Gn
open Go.RowKit
set_option maxRecDepth 100000

theorem heap_lt {w : World} {g : Nat} {o : Obj} (h : w.heap[g]? = some o) : g < w.heap.size := by
  rcases Nat.lt_or_ge g w.heap.size with hlt | hge
  · exact hlt
  · rw [Array.getElem?_eq_none hge] at h; cases h
theorem own_block {w : World} {base : Nat} {e : TypeId} {size : Nat} {v : Value} {n : Nat} {xs : List Value} (h : w.ownsRow base e size v n xs) : ∀ k, v.ownBlock = some k → base ≤ k := by
  intro k hk
  rcases h.2 with ⟨h1, _⟩ | ⟨r', cp, cur, h1, h2, _⟩
  · rw [h1] at hk; simp [Value.ownBlock] at hk
  · rw [h1] at hk; simp [Value.ownBlock] at hk; omega
theorem own_lt {w : World} {base : Nat} {e : TypeId} {size : Nat} {v : Value} {n : Nat} {xs : List Value} (h : w.ownsRow base e size v n xs) : ∀ k, v.ownBlock = some k → k < w.heap.size := by
  intro k hk
  rcases h.2 with ⟨h1, _⟩ | ⟨r', cp, cur, h1, _, h3, _⟩
  · rw [h1] at hk; simp [Value.ownBlock] at hk
  · rw [h1] at hk
    simp [Value.ownBlock] at hk
    have := heap_lt h3
    omega
theorem slice_of {w : World} {base : Nat} {e : TypeId} {size : Nat} {v : Value} {n : Nat} {xs : List Value} (h : w.ownsRow base e size v n xs) : ∃ A cap, v = .slice A n cap := by
  rcases h.2 with ⟨rfl, rfl⟩ | ⟨g, cap, cur, rfl, _⟩
  · exact ⟨_, _, rfl⟩
  · exact ⟨_, _, rfl⟩
theorem add_row (b j : Nat) : (⟨b, 0, none⟩ : Addr).add j = ⟨b, j, none⟩ := by
  unfold Addr.add
  split
  · rename_i h; subst h; rfl
  · simp
theorem row_new (w : World) (cs : List Value) (T : TypeId) (b : Nat) (hb : b = w.heap.size) : ∀ j u, cs[j]? = some u → (w.alloc (.cells cs.toArray T)).cell? ((⟨b, 0, none⟩ : Addr).add j) = some u := by
  intro j u h
  subst hb
  rw [add_row, cell_of_row _ _ j _ _ _ (heap_alloc_new w _)]
  simpa using h
theorem set_keep (w : World) {b k : Nat} (i : Nat) (u : Value) (h : b ≠ k) : (w.setCell ⟨b, i, none⟩ u).heap[k]? = w.heap[k]? := Below.heap_setCell _ _ _ _ (by simp only; omega)
theorem heap_set {w : World} {g : Nat} {cs : Array Value} {t : TypeId} {fr : Nat × Nat} (h : w.heap[g]? = some (.cells cs t fr)) (i : Nat) (u : Value) : (w.setCell ⟨g, i, none⟩ u).heap[g]? = some (.cells (cs.setIfInBounds i u) t fr) := by
  simp [World.setCell, Array.getElem?_modify, h]
theorem below_drewN {B : Nat} {W W' : World} (h : Below B W W') (n : Nat) : Below B W (W'.drewN n) := ⟨h.os, h.tape, h.output, h.size, h.block⟩
theorem below_drew {B : Nat} {w w' : World} (h : Below B w w') : Below B w w'.drew := ⟨h.os, h.tape, h.output, h.size, h.block⟩
/-- The same world but for the draws. -/
theorem below_same {B : Nat} {w w' w'' : World} (h : Below B w w') (e1 : w''.heap = w'.heap) (e2 : w''.os = w'.os) (e3 : w''.tape = w'.tape) (e4 : w''.output = w'.output) : Below B w w'' := ⟨e2.trans h.os, e3.trans h.tape, e4.trans h.output, by rw [e1]; exact h.size, fun k hk => by rw [e1]; exact h.block k hk⟩
theorem below_from {B : Nat} {w w' w'' : World} (h : Below B w w') (e1 : w.heap = w''.heap) (e2 : w.os = w''.os) (e3 : w.tape = w''.tape) (e4 : w.output = w''.output) : Below B w'' w' := ⟨h.os.trans e2, h.tape.trans e3, h.output.trans e4, by rw [← e1]; exact h.size, fun k hk => by rw [← e1]; exact h.block k hk⟩
theorem frozen_row {W : World} {b : Nat} {cs : Array Value} {t : TypeId} (h : W.heap[b]? = some (.cells cs t (0, 0))) : ∀ j, W.frozen? ⟨b, j, none⟩ = false := fun j => by simp [World.frozen?, h]
theorem cell_same {w w' : World} {b : Nat} (h : w'.heap[b]? = w.heap[b]?) (j : Nat) : w'.cell? ⟨b, j, none⟩ = w.cell? ⟨b, j, none⟩ := by
  unfold World.cell?
  simp only [h]
theorem size_alloc' (W : World) (o : Obj) : (W.alloc o).heap.size = W.heap.size + 1 := by simp
theorem results_tmp_cell {P : Program} {fn : Func} {p q : Tmp} {uy : TypeId} (h : fn.results = #[.tmp p, .cell q uy]) (tmps : Array Value) (w : World) (k : Nat) (u : TypeId) (ds : Array Value) (fs : Nat × Nat) (e : TypeDesc) (v : Value)
    (hp : tmps.getD p undef = v) (hq : tmps.getD q undef = .pointer (some ⟨k, 0, none⟩)) (hk : w.heap[k]? = some (.cells ds u fs)) (hv : P.underlying uy = some e) (he : (match e with | .struct _ | .array _ _ => true | _ => false) = true) (hj : (P.info? uy).map (·.size) = some ds.size) :
    (results fn tmps).run P w = .ok (.tuple #[v, .agg ds]) w := by
  have hp' : tmps[p]?.getD undef = v := by simpa using hp
  have hq' : tmps[q]?.getD undef = .pointer (some ⟨k, 0, none⟩) := by simpa using hq
  simp [results, h, hp', hq', asAddr, run_loadVar_row w k u uy ds fs e hk hv he hj]
theorem owns_uniq {W : World} {base n k : Nat} {e : TypeId} {v : Value} {xs ys : List Value} (h : W.ownsRow base e k v n xs) (h2 : W.ownsRow base e k v n ys) : xs = ys := by
  rcases h.2 with ⟨hv, hn⟩ | ⟨g, cp, cur, hv, _, hh, _, _, _, ht⟩
  · have a := h.1
    have b := h2.1
    rw [hn, Nat.zero_mul] at a b
    rw [List.eq_nil_of_length_eq_zero a, List.eq_nil_of_length_eq_zero b]
  · rcases h2.2 with ⟨hv2, _⟩ | ⟨g2, cp2, cur2, hv2, _, hh2, _, _, _, ht2⟩
    · rw [hv] at hv2; injection hv2 with e1; exact absurd e1 (by simp)
    · rw [hv] at hv2
      injection hv2 with e1
      injection e1 with e1
      injection e1 with e1
      subst e1
      rw [hh] at hh2
      injection hh2 with e2
      injection e2 with e2
      subst e2
      rw [← ht, ← ht2]
/-- A bool is told; nothing that was there is turned. -/
def Asks (b : Bool) (W : World) (e : Ending) (w' : World) : Prop := e = .returned (.bool b) ∧ Below W.heap.size W w'
/-- All as it was but for one block and new ones. -/
structure Sep (g c : Nat) (w w' : World) : Prop where
  os : w'.os = w.os
  tape : w'.tape = w.tape
  output : w'.output = w.output
  size : w.heap.size ≤ w'.heap.size
  block : ∀ k, k < c → k ≠ g → w'.heap[k]? = w.heap[k]?
section
variable {g c : Nat} {w w' a b : World}
theorem Sep.refl (g c : Nat) (w : World) : Sep g c w w := ⟨rfl, rfl, rfl, Nat.le_refl _, fun _ _ _ => rfl⟩
theorem Sep.trans {d : World} (h : Sep g c a b) (k : Sep g c b d) : Sep g c a d :=
  ⟨k.os.trans h.os, k.tape.trans h.tape, k.output.trans h.output, Nat.le_trans h.size k.size, fun i hi hg => (k.block i hi hg).trans (h.block i hi hg)⟩
theorem Sep.mono {c' : Nat} (h : Sep g c a b) (hc : c' ≤ c) : Sep g c' a b := ⟨h.os, h.tape, h.output, h.size, fun k hk hg => h.block k (by omega) hg⟩
theorem Sep.of_below (h : Below c w w') : Sep g c w w' := ⟨h.os, h.tape, h.output, h.size, fun k hk _ => h.block k hk⟩
theorem Sep.below (h : Sep g c w w') {B : Nat} (hg : B ≤ g) (hc : B ≤ c) : Below B w w' := ⟨h.os, h.tape, h.output, h.size, fun k hk => h.block k (by omega) (by omega)⟩
theorem Sep.setCell (h : Sep g c a w) {p : Addr} (hp : p.block = g ∨ c ≤ p.block) (u : Value) : Sep g c a (w.setCell p u) :=
  h.trans ⟨rfl, rfl, rfl, by simp [World.setCell], fun k hk hg => Below.heap_setCell _ _ _ _ (by omega)⟩
end
end Go.Proofs.YtgbpofgmomglfaaDoor.Gn
