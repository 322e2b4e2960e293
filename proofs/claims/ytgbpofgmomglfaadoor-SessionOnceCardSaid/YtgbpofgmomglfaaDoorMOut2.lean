/-
  The walks of an Out's methods, on.
-/
import Derived.Test.YtgbpofgmomglfaaDoorMOut
namespace Go.Proofs.YtgbpofgmomglfaaDoor.Oct
set_option maxRecDepth 100000
open Go.RowKit

theorem written_nil (g : Nat) (w : World) (c0 : w.cell? ⟨g, 0, none⟩ = some (.pointer none)) :
    Calls Tryd.prog 57 #[.pointer (some ⟨g, 0, none⟩)] w fun e w' => e = .returned (.slice none 0 0) ∧ w = w' := by
  go_enter Tryd.func57, Tryd.ntmps57
  go_wp2
  go_ret
  exact ⟨rfl, rfl⟩

theorem clone_nil (w : World) :
    Calls Tryd.prog 68 #[.slice none 0 0] w fun e w' => e = .returned (.slice none 0 0) ∧ w = w' := by
  have h1 := @Lib.run_eql_slice_nil Tryd.prog
  go_enter Tryd.func68, Tryd.ntmps68
  go_wp2
  go_ret
  exact ⟨rfl, rfl⟩

theorem wrote_first {g c h : Nat} {A' : Option Addr} {cap' : Nat} {s : ByteArray} {w w1 : World} (hgc : g < c) (hch : c ≤ h) (hcw : c ≤ w.heap.size)
    (hg1 : w1.heap[g]? = some (obj (.pointer (some ⟨h, 0, none⟩)) (.int .i64 0) (.bool false)))
    (hh1 : w1.heap[h]? = some (.cells #[.slice none 0 0] 134 (0, 0)))
    (hown1 : w1.ownsRow c 5 1 (.slice A' (0 + s.size) cap') (0 + s.size) ([] ++ Lib.strCells s))
    {W : World} {wd : World} (hWd : wd.heap = W.heap) (hgrow : wd.grownBy w1 (Value.slice none 0 0).ownBlock) (hown : W.ownsRow c 5 1 (.slice none 0 0) 0 []) (hs : OSep g c w wd) :
    Wrote w g c (bs s) (.returned (.tuple #[])) ((w1.setCell ⟨h, 0, none⟩ (.slice A' s.size cap')).setCell ⟨g, 1, none⟩ (.int .i64 (s.size : Int))) := by
  have := wrote_of (l := []) (s := s) hgc hcw hch hg1 hh1 hown1 hWd hgrow hown hs
  simp only [List.length_nil, Nat.zero_add, List.nil_append, Int.natCast_zero, Int.zero_add] at this
  exact ⟨rfl, this⟩

set_option maxRecDepth 100000 in
set_option maxHeartbeats 1000000 in
/-- Where nothing was written yet. -/
theorem write_first (g c : Nat) (s : ByteArray) (w : World) (hgc : g < c) (hcw : c ≤ w.heap.size)
    (hg : w.heap[g]? = some (obj (.pointer none) (.int .i64 0) (.bool false))) (hb : s.size ≤ 140737488355328) :
    Calls Tryd.prog 55 #[.pointer (some ⟨g, 0, none⟩), .string s] w (Wrote w g c (bs s)) := by
  obtain ⟨i0, hi0, hz0, hz1, hz2⟩ := info_parts u8info
  have c0 : w.cell? ⟨g, 0, none⟩ = some (.pointer none) := cell_of_row w g 0 _ _ (0, 0) hg
  have c1 : w.cell? ⟨g, 1, none⟩ = some (.int .i64 0) := cell_of_row w g 1 _ _ (0, 0) hg
  have c2 : w.cell? ⟨g, 2, none⟩ = some (.bool false) := cell_of_row w g 2 _ _ (0, 0) hg
  have f0 : w.frozen? ⟨g, 0, none⟩ = false := by simp [World.frozen?, hg, obj]
  have hlt := heap_lt hg
  have hne : ¬ g = w.heap.size := by omega
  have hne' : ¬ w.heap.size = g := by omega
  have HG2 : Hid (((w.alloc (.cells #[.slice none 0 0] 134)).setCell ⟨g, 0, none⟩ (.pointer (some ⟨w.heap.size, 0, none⟩))).heap[g]? = some (obj (.pointer (some ⟨w.heap.size, 0, none⟩)) (.int .i64 0) (.bool false))) := by
    have h1 : (w.alloc (.cells #[.slice none 0 0] 134)).heap[g]? = some (obj (.pointer none) (.int .i64 0) (.bool false)) := by rw [Below.heap_alloc _ _ _ hlt]; exact hg
    exact heap_set h1 0 _
  have HH : Hid (((w.alloc (.cells #[.slice none 0 0] 134)).setCell ⟨g, 0, none⟩ (.pointer (some ⟨w.heap.size, 0, none⟩))).heap[w.heap.size]? = some (.cells #[.slice none 0 0] 134 (0, 0))) := by
    unfold Hid
    rw [Below.heap_setCell _ _ _ _ hne']
    exact heap_alloc_new w _
  have HO : Hid (((w.alloc (.cells #[.slice none 0 0] 134)).setCell ⟨g, 0, none⟩ (.pointer (some ⟨w.heap.size, 0, none⟩))).ownsRow c 5 1 (.slice none 0 0) 0 []) := World.ownsRow_nil _ _ _ _
  have c0a : ∀ n o, ((w.drewN n).alloc o).cell? ⟨g, 0, none⟩ = some (.pointer none) := fun n o => (World.cell?_alloc_lt _ o _ hlt).trans c0
  have c1a : ∀ n o, ((w.drewN n).alloc o).cell? ⟨g, 1, none⟩ = some (.int .i64 0) := fun n o => (World.cell?_alloc_lt _ o _ hlt).trans c1
  have f0a : ∀ n o, ((w.drewN n).alloc o).frozen? ⟨g, 0, none⟩ = false := fun n o => (World.frozen?_of_block (w := w) (Below.heap_alloc (w.drewN n) o g hlt)).trans f0
  have c3a : ∀ n, ((w.drewN n).alloc (.cells #[.slice none 0 0] 134)).cell? ⟨w.heap.size, 0, none⟩ = some (.slice none 0 0) := fun n => cell_of_row _ _ 0 _ _ _ (heap_alloc_new (w.drewN n) _)
  have HG := Lib.hid hg
  clear hg
  go_enter Tryd.func55, Tryd.ntmps55
  go_wp2
  go_quiet (fail)
  go_wp2_with fail
  refine (written_nil _ _ (by exact c0)).mono ?_
  rintro e w' ⟨rfl, rfl⟩
  go_wp2_with fail
  refine (clone_nil _).mono ?_
  rintro e w' ⟨rfl, rfl⟩
  go_wp2
  go_region_law (refine step_append_string _ rfl (.tmp 50) (.tmp 51) 91 9 rfl c 5 i0 Tryd.underlying91 Tryd.underlying9 hi0 hz0 hz1 hz2 (.slice none 0 0) 0 [] (by simp [Act.eval]) HO.out s (by simp [Act.eval]) (by unfold maxLen; omega) (by omega) (by simp [World.setCell]; omega) ?_; intro A' cap' w1 hown1 hgrow; have hg1 := grown_keeps hgrow HO.out HG2.out (by decide); have hh1 := grown_keeps hgrow HO.out HH.out (by decide); have e0 := cell_of_row w1 g 0 _ _ _ hg1; have e1 := cell_of_row w1 g 1 _ _ _ hg1; have e2 := cell_of_row w1 w.heap.size 0 _ _ _ hh1; have e3 : w1.frozen? ⟨w.heap.size, 0, none⟩ = false := (by simp [World.frozen?, hh1]); have e4 : w1.frozen? ⟨g, 1, none⟩ = false := (by simp [World.frozen?, hg1]); have HG1 := Lib.hid hg1; have HH1 := Lib.hid hh1; have HO1 := Lib.hid hown1; have HGR := Lib.hid hgrow; clear hg1 hh1 hown1 hgrow)
  all_goals go_wp2
  all_goals go_end0
  all_goals exact wrote_first hgc hcw hcw HG1.out HH1.out HO1.out (by rfl) HGR.out HO.out ((OSep.setCell (p := ⟨g, 0, none⟩) (((OSep.refl g c w).drewN _).alloc (by exact hcw) _) (.inl rfl) (by exact (Below.heap_alloc _ _ _ hlt).trans HG.out) (.inr (.inr rfl)) _).drew)

end Go.Proofs.YtgbpofgmomglfaaDoor.Oct
