/-
  The sentence that each statement of layer 4 opens with.
-/
import Derived.Test.YteaolilndkjlpaaLxScan
import Derived.Laws.OwnMore
namespace Go.Proofs.Yteaolilndkjlpaa.Lx
open Go.RowKit

/-- A list of tokens that is told: its row. -/
theorem row_at {w : World} {B : Nat} {A : Option Addr} {cap n : Nat} {xs : List Value} (h : w.ownsRow B 31 4 (.slice A n cap) n xs) (hn : 0 < n) :
    ∃ r, A = some ⟨r, 0, none⟩ ∧ r < w.heap.size ∧ B ≤ r ∧ n ≤ cap ∧ ∀ j u, xs[j]? = some u → w.cell? ⟨r, j, none⟩ = some u := by
  rcases h.2 with ⟨h1, h2⟩ | ⟨g, cap2, cur, h1, h2, h3, h4, _⟩
  · omega
  · injection h1 with hA _ h5
    subst hA
    subst h5
    have hc := h.cells (g := g) rfl
    exact ⟨g, rfl, heap_lt h3, h2, h4, fun j u hj => by have := hc j u hj; rwa [add_row] at this⟩

theorem cell_of_row' {w : World} {g : Nat} {cs : Array Value} {t : TypeId} (j : Nat) (h : w.heap[g]? = some (.cells cs t (0, 0))) : w.cell? ⟨g, j, none⟩ = cs[j]? := cell_of_row w g j cs t (0, 0) h

theorem flt_at {w3 w4 : World} {cs : Array Value} {T : TypeId} (b : Below (w3.alloc (.cells cs T)).heap.size (w3.alloc (.cells cs T)) w4) : w4.heap[w3.heap.size]? = some (.cells cs T (0, 0)) :=
  (b.block _ (by simp)).trans (heap_alloc_new w3 _)
theorem cell_keep {w3 w4 : World} {o : Obj} {r : Nat} (hr : r < w3.heap.size) (b : Below (w3.alloc o).heap.size (w3.alloc o) w4) (j : Nat) : w4.cell? ⟨r, j, none⟩ = w3.cell? ⟨r, j, none⟩ :=
  (b.cell (p := ⟨r, j, none⟩) (by simp; omega)).trans (((Below.refl w3.heap.size w3).alloc (Nat.le_refl _) o).cell (p := ⟨r, j, none⟩) hr)

def sp : ByteArray := ⟨#[97, 45, 49, 58, 39, 120, 39]⟩
theorem sp_scan : scanS (bs sp) = ([⟨1, [97, 45, 49], 1, 1⟩, ⟨3, [58], 1, 4⟩, ⟨2, [120], 1, 5⟩, ⟨4, [], 1, 8⟩], (0, 0, 0)) := by kernel_rfl

set_option maxHeartbeats 1000000 in
theorem speaks_true (w : World) :
    Calls Try.prog 9 #[] w fun e w' => e = .returned (.bool true) ∧ Below w.heap.size w w' := by
  have H : ∀ W, Calls Try.prog 13 #[.string ⟨#[97, 45, 49, 58, 39, 120, 39]⟩] W (Scanned W ([⟨1, [97, 45, 49], 1, 1⟩, ⟨3, [58], 1, 4⟩, ⟨2, [120], 1, 5⟩, ⟨4, [], 1, 8⟩], (0, 0, 0))) := fun W => by
    have := scan_any sp W (by decide)
    rw [sp_scan] at this
    exact this
  have K1 := Lib.hid H
  clear H
  go_enter Try.func9, Try.ntmps9
  go_wp2_with fail
  refine (K1.out _).mono ?_
  rintro e w1 ⟨A, cap, rfl, hown, hb⟩
  simp only [fltV]
  obtain ⟨r, rfl, hr, _, hcap, hc⟩ := row_at hown (by decide)
  have c0 := hc 0 _ rfl
  have c1 := hc 1 _ rfl
  have c2 := hc 2 _ rfl
  have c3 := hc 3 _ rfl
  have c8 := hc 8 _ rfl
  have c9 := hc 9 _ rfl
  have c10 := hc 10 _ rfl
  have c11 := hc 11 _ rfl
  have c12 := hc 12 _ rfl
  have c13 := hc 13 _ rfl
  have c14 := hc 14 _ rfl
  have c15 := hc 15 _ rfl
  simp only [mk, List.length_cons, List.length_nil] at *
  have HB := Lib.hid hb
  clear hc hown hb
  go_wp2
  go_ret
  exact ⟨rfl, HB.out.alloc (by simpa using HB.out.size) _⟩

end Go.Proofs.Yteaolilndkjlpaa.Lx
