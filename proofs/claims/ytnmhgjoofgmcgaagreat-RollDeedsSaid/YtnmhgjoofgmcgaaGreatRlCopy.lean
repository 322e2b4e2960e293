/-
  Layer 18: a class and a roll that are copied.
-/
import Derived.Test.YtnmhgjoofgmcgaaGreatRlClone
import Derived.Test.YtnmhgjoofgmcgaaGreatRlFind
namespace Go.Proofs.YtnmhgjoofgmcgaaGreat.Rl
open Go.RowKit
open Fx (StrsAt)
set_option maxRecDepth 100000
set_option linter.unusedSimpArgs false
set_option linter.unusedVariables false
set_option maxHeartbeats 4000000 in
theorem ccopy_any (nm tc : ByteArray) (l : List ByteArray) (P : Nat → Prop) (W : World) (v : Value) (h : StrsAt P W l v) (hn : l.length ≤ 4096) :
    Calls Tryz.prog 49 #[.agg #[.string nm, .string tc, v]] W fun e w' => ∃ v', e = .returned (.agg #[.string nm, .string tc, v']) ∧ w'.ownsRow W.heap.size 9 1 v' l.length (l.map Value.string) ∧ Below W.heap.size W w' := by
  obtain ⟨A, cap, rfl⟩ := h.form
  obtain ⟨n, hnn⟩ : ∃ n, n = l.length := ⟨_, rfl⟩
  rw [← hnn] at h hn ⊢
  obtain ⟨V, hV⟩ : ∃ V, V = (W.alloc (.cells #[.string nm, .string tc, .slice A n cap] 53)).alloc (.cells #[.string ⟨#[]⟩, .string ⟨#[]⟩, .slice none 0 0] 53) := ⟨_, rfl⟩
  have hb : Below W.heap.size W V := by rw [hV]; exact ((Below.refl _ W).alloc (Nat.le_refl _) _).alloc (by simp) _
  have hz : V.heap.size = W.heap.size + 1 + 1 := by rw [hV]; simp
  have hx0 : V.heap[W.heap.size]? = some (.cells #[.string nm, .string tc, .slice A n cap] 53 (0, 0)) := by rw [hV]; exact (heap_alloc_old _ _ (by simp)).trans (heap_alloc_new W _)
  have hx1 : V.heap[W.heap.size + 1]? = some (.cells #[.string ⟨#[]⟩, .string ⟨#[]⟩, .slice none 0 0] 53 (0, 0)) := by
    rw [hV]; have := heap_alloc_new (W.alloc (.cells #[.string nm, .string tc, .slice A n cap] 53)) (.cells #[.string ⟨#[]⟩, .string ⟨#[]⟩, .slice none 0 0] 53); simpa using this
  have HCL := Lib.hid (clone_S l P V (.slice A n cap) (h.under hb) (by rw [← hnn]; exact hn))
  rw [← hnn] at HCL
  have HNN := Lib.hid hnn
  have HV := Lib.hid hV
  have HB := Lib.hid hb
  have HX0 := Lib.hid hx0
  have HX1 := Lib.hid hx1
  have HZ := Lib.hid hz
  have x2 := cell_of_row _ _ 2 _ _ (0, 0) hx0
  clear hV hb hx0 hx1 hz h hnn
  go_enter Tryz.func49, Tryz.ntmps49
  go_upto_region 1 with fail
  rw [← HV.out]
  go_wp2_with fail
  refine HCL.out.mono ?_
  rintro e w2 ⟨v', rfl, ho, hb2⟩
  obtain ⟨A2, c2, rfl⟩ := Gn.slice_of ho
  have hy0 := (hb2.block _ (Gn.heap_lt HX0.out)).trans HX0.out
  have hy1 := (hb2.block _ (Gn.heap_lt HX1.out)).trans HX1.out
  have y0 := cell_of_row _ _ 0 _ _ (0, 0) hy0
  have y1 := cell_of_row _ _ 1 _ _ (0, 0) hy0
  have y2 := cell_of_row _ _ 2 _ _ (0, 0) hy0
  have f2 := Gn.frozen_row hy0 2
  have HO := Lib.hid ho
  have HB2 := Lib.hid (HB.out.trans (hb2.mono HB.out.size))
  have HY0 := Lib.hid hy0
  have HY1 := Lib.hid hy1
  clear ho hb2 hy0 hy1 x2
  go_upto_region 2 with fail
  obtain ⟨W3, hW3⟩ : ∃ W3, W3 = w2.setCell ⟨W.heap.size, 2, none⟩ (.slice A2 n c2) := ⟨_, rfl⟩
  rw [← hW3]
  have hz0 : W3.heap[W.heap.size]? = some (.cells #[.string nm, .string tc, .slice A2 n c2] 53 (0, 0)) := by rw [hW3]; exact Gn.heap_set HY0.out 2 _
  have hz1 : W3.heap[W.heap.size + 1]? = some (.cells #[.string ⟨#[]⟩, .string ⟨#[]⟩, .slice none 0 0] 53 (0, 0)) := by rw [hW3, Gn.set_keep _ _ _ (by omega)]; exact HY1.out
  have hb3 : Below W.heap.size W W3 := by rw [hW3]; exact HB2.out.setCell (Nat.le_refl _) _
  have hs3 : w2.ownsRow V.heap.size 9 1 (.slice A2 n c2) n (l.map Value.string) := HO.out
  have z0 := cell_of_row _ _ 0 _ _ (0, 0) hz0
  have z1 := cell_of_row _ _ 1 _ _ (0, 0) hz0
  have z2 := cell_of_row _ _ 2 _ _ (0, 0) hz0
  have r0 := cell_of_row _ _ 0 _ _ (0, 0) hz1
  have r1 := cell_of_row _ _ 1 _ _ (0, 0) hz1
  have r2 := cell_of_row _ _ 2 _ _ (0, 0) hz1
  have g0 := Gn.frozen_row hz1 0
  have g1 := Gn.frozen_row hz1 1
  have g2 := Gn.frozen_row hz1 2
  have HRS := Lib.hid (Gn.heap_set (Gn.heap_set (Gn.heap_set hz1 0 (.string nm)) 1 (.string tc)) 2 (.slice A2 n c2))
  have hkk : ∀ b, W.heap.size + 1 ≠ b → (((W3.setCell ⟨W.heap.size + 1, 0, none⟩ (.string nm)).setCell ⟨W.heap.size + 1, 1, none⟩ (.string tc)).setCell ⟨W.heap.size + 1, 2, none⟩ (.slice A2 n c2)).heap[b]? = W3.heap[b]? := fun b hb => (Gn.set_keep _ 2 _ hb).trans ((Gn.set_keep _ 1 _ hb).trans (Gn.set_keep _ 0 _ hb))
  have hsz : (((W3.setCell ⟨W.heap.size + 1, 0, none⟩ (.string nm)).setCell ⟨W.heap.size + 1, 1, none⟩ (.string tc)).setCell ⟨W.heap.size + 1, 2, none⟩ (.slice A2 n c2)).heap.size = w2.heap.size := by rw [hW3]; simp [World.setCell]
  have HFI := Lib.hid (show ∃ v', Ending.returned (.agg #[.string nm, .string tc, .slice A2 n c2]) = .returned (.agg #[.string nm, .string tc, v']) ∧ (((W3.setCell ⟨W.heap.size + 1, 0, none⟩ (.string nm)).setCell ⟨W.heap.size + 1, 1, none⟩ (.string tc)).setCell ⟨W.heap.size + 1, 2, none⟩ (.slice A2 n c2)).ownsRow W.heap.size 9 1 v' n (l.map Value.string) ∧ Below W.heap.size W (((W3.setCell ⟨W.heap.size + 1, 0, none⟩ (.string nm)).setCell ⟨W.heap.size + 1, 1, none⟩ (.string tc)).setCell ⟨W.heap.size + 1, 2, none⟩ (.slice A2 n c2)) from
    ⟨_, rfl, own_low (own_keep hs3 fun r hr => by have h9 := Gn.own_block hs3 r hr; rw [hkk r (by have := HZ.out; omega), hW3, Gn.set_keep _ _ _ (by have := HZ.out; omega)]) (by have := HZ.out; omega), ((hb3.setCell (by simp) _).setCell (by simp) _).setCell (by simp) _⟩)
  clear hkk hsz hs3 hb3 hz0 hz1 hW3
  go_wp2_with fail
  exact bodyPost_ret (results_cell_row rfl _ _ (W.heap.size + 1) 53 _ (0, 0) _ rfl HRS.out Tryz.underlying53 rfl rfl) rfl HFI.out
end Go.Proofs.YtnmhgjoofgmcgaaGreat.Rl
