/-
  Layer 23: Get, over what is no frame.
-/
import Derived.Test.YtfeelmblnkpfdaaDoorMsGe
import Derived.Test.YtfeelmblnkpfdaaDoorLexT
namespace Go.Proofs.YtfeelmblnkpfdaaDoor.Ms
open Oct (pb bs)
open Crc (wr op)
open Go.RowKit
set_option maxRecDepth 100000
set_option linter.unusedSimpArgs false
set_option linter.unusedVariables false

def Refused (w : World) (e : Ending) (w' : World) : Prop := ∃ k : Nat, k ≠ 0 ∧ e = .returned (.tuple #[.agg #[.int .i64 0, .int .i64 0, .int .i64 0, .slice none 0 0, .int .i64 0, .int .i64 0, .int .i64 0, .int .i64 0, .int .i64 0, .int .i64 0, .int .i64 0, .string ⟨#[]⟩, .bool false, .int .i64 0, .string ⟨#[]⟩, .slice none 0 0], .int .i64 (k : Int)]) ∧ Below w.heap.size w w'
theorem zero_build (w : World) : (Instr.build 31 #[]).run Tryd.prog w = .ok (.agg #[.int .i64 0, .int .i64 0, .int .i64 0, .slice none 0 0, .int .i64 0, .int .i64 0, .int .i64 0, .int .i64 0, .int .i64 0, .int .i64 0, .int .i64 0, .string ⟨#[]⟩, .bool false, .int .i64 0, .string ⟨#[]⟩, .slice none 0 0]) w := by kernel_rfl
theorem zero_exec (a : Act) (o : Oper) (w : World) (ho : o.op = .build 31 #[]) : (execOp a.eval o).run Tryd.prog w = .ok (.value (.agg #[.int .i64 0, .int .i64 0, .int .i64 0, .slice none 0 0, .int .i64 0, .int .i64 0, .int .i64 0, .int .i64 0, .int .i64 0, .int .i64 0, .int .i64 0, .string ⟨#[]⟩, .bool false, .int .i64 0, .string ⟨#[]⟩, .slice none 0 0])) w := by
  unfold execOp
  rw [ho]
  have h := zero_build w
  simp only [List.map_toArray, List.map_nil, Sem.run_bind]
  rw [h]
  rfl
set_option maxHeartbeats 8000000 in
theorem get_bad (s : ByteArray) (r : Int) (hr : groupB r = true) (hs : s.size ≤ 9223372036854775807) (hop : (op (bs s)).2 ≠ 0) (w : World) (hst : Crc.Steps w) (h0 : 0 < w.heap.size) :
    Calls Tryd.prog 13 #[.string s, .int .i64 r] w (Refused w) := by
  obtain ⟨k, hk⟩ : ∃ k, k = (op (bs s)).2 := ⟨_, rfl⟩
  obtain ⟨t, ht⟩ : ∃ t : ByteArray, t = ⟨(op (bs s)).1.toArray⟩ := ⟨_, rfl⟩
  have HOP := Lib.hid (fun (w : World) (hst : Crc.Steps w) => show Calls Tryd.prog 36 #[.string s] w (fun e w' => e = .returned (.tuple #[.string t, .int .i64 (k : Int)]) ∧ Below w.heap.size w w') by
    have h := Crc.open_any s w hs hst
    rw [ht, hk]
    exact h)
  rw [← hk] at hop
  have HGR := Lib.hid (fun w => show Calls Tryd.prog 23 #[.int .i64 r] w (Says true w) by rw [← hr]; exact group_any r w)
  have HST := Lib.hid (fun (w' : World) (b : Below w.heap.size w w') => hst.of b h0)
  have hk0 : ((k : Int) == 0) = false := by rw [beq_eq_false_iff_ne]; omega
  have hk1 : ¬ (k : Int) = 0 := by omega
  have HK := Lib.hid hop
  obtain ⟨W0, hW0⟩ : ∃ W, W = w.alloc (.cells #[.int .i64 0, .int .i64 0, .int .i64 0, .slice none 0 0, .int .i64 0, .int .i64 0, .int .i64 0, .int .i64 0, .int .i64 0, .int .i64 0, .int .i64 0, .string ⟨#[]⟩, .bool false, .int .i64 0, .string ⟨#[]⟩, .slice none 0 0] 31) := ⟨_, rfl⟩
  have hb0 : Below w.heap.size w W0 := by rw [hW0]; exact (Below.refl _ w).alloc (Nat.le_refl _) _
  have hq0 : W0.heap[w.heap.size]? = some (.cells #[.int .i64 0, .int .i64 0, .int .i64 0, .slice none 0 0, .int .i64 0, .int .i64 0, .int .i64 0, .int .i64 0, .int .i64 0, .int .i64 0, .int .i64 0, .string ⟨#[]⟩, .bool false, .int .i64 0, .string ⟨#[]⟩, .slice none 0 0] 31 (0, 0)) := by rw [hW0]; exact heap_alloc_new w _
  obtain ⟨q0, hq⟩ : ∃ q, q = w.heap.size := ⟨_, rfl⟩
  rw [← hq] at hq0
  have HW0 := Lib.hid hW0
  have HB0 := Lib.hid hb0
  have HQ0 := Lib.hid hq0
  have HQ := Lib.hid hq
  clear hr hs hop hst h0 hk ht hW0 hb0 hq0 hq
  go_enter Tryd.func13, Tryd.ntmps13
  go_upto_region 1 with fail
  rw [← HW0.out, ← HQ.out]
  go_wp2_with fail
  refine (HGR.out _).mono ?_
  rintro e w1 ⟨rfl, b1⟩
  have HB1 := Lib.hid (HB0.out.trans (b1.mono HB0.out.size))
  have HQ1 := Lib.hid ((b1.block _ (Gn.heap_lt HQ0.out)).trans HQ0.out)
  clear b1
  go_wp2_with fail
  refine (HOP.out _ (HST.out _ HB1.out)).mono ?_
  rintro e w2 ⟨rfl, b2⟩
  have HB2 := Lib.hid (HB1.out.trans (b2.mono HB1.out.size))
  have HQ2 := Lib.hid ((b2.block _ (Gn.heap_lt HQ1.out)).trans HQ1.out)
  clear b2
  go_upto_region 5 with fail
  apply wp_region_lit
  refine LexT.wpList_val (.agg #[.int .i64 0, .int .i64 0, .int .i64 0, .slice none 0 0, .int .i64 0, .int .i64 0, .int .i64 0, .int .i64 0, .int .i64 0, .int .i64 0, .int .i64 0, .string ⟨#[]⟩, .bool false, .int .i64 0, .string ⟨#[]⟩, .slice none 0 0]) (by kernel_rfl) (zero_exec _ _ _ rfl) ?_
  simp only [Act.put, List.setIfInBounds_toArray, List.set_cons_zero, List.set_cons_succ]
  refine LexT.wpList_val (.int .i64 (k : Int)) (by kernel_rfl) (by go_simp) ?_
  simp only [Act.put, List.setIfInBounds_toArray, List.set_cons_zero, List.set_cons_succ]
  refine wpList_store16 (by rfl) 31 (.tmp 4) (.tmp 20) (by rfl) q0 (.int .i64 0) (.int .i64 0) (.int .i64 0) (.slice none 0 0) (.int .i64 0) (.int .i64 0) (.int .i64 0) (.int .i64 0) (.int .i64 0) (.int .i64 0) (.int .i64 0) (.string ⟨#[]⟩) (.bool false) (.int .i64 0) (.string ⟨#[]⟩) (.slice none 0 0) _ _ _ _ _ _ _ _ _ _ _ _ _ _ _ _ _ (by simp [Act.eval]) (by simp [Act.eval]) HQ2.out (by kernel_rfl) (by simp [Value.oneCell']) ?_
  intro w9 hst hoth hbel
  have HS9 := Lib.hid hst
  have HL9 := Lib.hid hbel
  clear hst hoth hbel
  simp only [Act.put]
  go_wp2_with fail
  refine bodyPost_ret (results_cell_tmp (P := Tryd.prog) rfl _ _ q0 31 _ (0, 0) _ (by rfl) HS9.out Tryd.underlying31 rfl (by kernel_rfl)) rfl ?_
  have hwq : w.heap.size ≤ q0 := by rw [HQ.out]; exact Nat.le_refl _
  exact ⟨k, HK.out, rfl, HB2.out.trans (HL9.out _ hwq)⟩
end Go.Proofs.YtfeelmblnkpfdaaDoor.Ms
