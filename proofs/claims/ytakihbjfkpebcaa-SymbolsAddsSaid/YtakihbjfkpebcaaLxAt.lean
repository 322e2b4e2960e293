/-
  Reading what Scan told.
-/
import Derived.Test.YtakihbjfkpebcaaLxScan
import Derived.Laws.OwnMore
namespace Go.Proofs.Ytakihbjfkpebcaa.Lx
open Go.RowKit
set_option maxRecDepth 100000

/-- A list of tokens that is told: its row. -/
theorem row_at {w : World} {B : Nat} {A : Option Addr} {cap n : Nat} {xs : List Value} (h : w.ownsRow B 110 4 (.slice A n cap) n xs) (hn : 0 < n) :
    ∃ r, A = some ⟨r, 0, none⟩ ∧ r < w.heap.size ∧ B ≤ r ∧ n ≤ cap ∧ ∀ j u, xs[j]? = some u → w.cell? ⟨r, j, none⟩ = some u := by
  rcases h.2 with ⟨h1, h2⟩ | ⟨g, cap2, cur, h1, h2, h3, h4, _⟩
  · omega
  · injection h1 with hA _ h5
    subst hA
    subst h5
    have hc := h.cells (g := g) rfl
    exact ⟨g, rfl, heap_lt h3, h2, h4, fun j u hj => by have := hc j u hj; rwa [add_row] at this⟩

theorem cell_of_row' {w : World} {g : Nat} {cs : Array Value} {t : TypeId} (j : Nat) (h : w.heap[g]? = some (.cells cs t (0, 0))) : w.cell? ⟨g, j, none⟩ = cs[j]? := cell_of_row w g j cs t (0, 0) h

theorem flt_at {w3 w4 : World} {cs : Array Value} {T : TypeId} (b : Below (w3.alloc (.cells cs T)).heap.size (w3.alloc (.cells cs T)) w4) : w4.heap[w3.heap.size]? = some (.cells cs T (0, 0)) :=
  (b.block _ (by simp)).trans (heap_alloc_new w3 _)
theorem cell_keep {w3 w4 : World} {o : Obj} {r : Nat} (hr : r < w3.heap.size) (b : Below (w3.alloc o).heap.size (w3.alloc o) w4) (j : Nat) : w4.cell? ⟨r, j, none⟩ = w3.cell? ⟨r, j, none⟩ :=
  (b.cell (p := ⟨r, j, none⟩) (by simp; omega)).trans (((Below.refl w3.heap.size w3).alloc (Nat.le_refl _) o).cell (p := ⟨r, j, none⟩) hr)

end Go.Proofs.Ytakihbjfkpebcaa.Lx
