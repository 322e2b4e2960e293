/-
  Layer 18: no member that holds.
-/
import Derived.Test.YtdkcfhmdgignhaaRlMholds
namespace Go.Proofs.Ytdkcfhmdgignhaa.Rl
open Go.RowKit
set_option maxRecDepth 100000
set_option linter.unusedSimpArgs false
set_option linter.unusedVariables false
set_option maxHeartbeats 8000000 in
theorem mbad_any (m : Mem) (hs : m.name.size ≤ 9223372036854775807) (W : World) :
    Calls Try.prog 60 #[.agg #[.string m.name, .int .i64 m.role, .int .i64 m.quota]] W fun e w' => e = .returned (.bool (!okM m)) ∧ Below W.heap.size W w' := by
  obtain ⟨V, hV⟩ : ∃ V, V = W.alloc (.cells #[.string m.name, .int .i64 m.role, .int .i64 m.quota] 49) := ⟨_, rfl⟩
  have hb : Below W.heap.size W V := by rw [hV]; exact (Below.refl _ _).alloc (Nat.le_refl _) _
  have hx : V.heap[W.heap.size]? = some (.cells #[.string m.name, .int .i64 m.role, .int .i64 m.quota] 49 (0, 0)) := by rw [hV]; exact heap_alloc_new _ _
  have HM := Lib.hid (fun w => mholds_any m hs w)
  have HV := Lib.hid hV
  have HB := Lib.hid hb
  have x0 := cell_of_row _ _ 0 _ _ (0, 0) hx
  have x1 := cell_of_row _ _ 1 _ _ (0, 0) hx
  have x2 := cell_of_row _ _ 2 _ _ (0, 0) hx
  clear hx hb hV hs
  go_enter Try.func60, Try.ntmps60
  go_upto_region 1 with fail
  rw [← HV.out]
  go_wp2_with fail
  refine (HM.out _).mono ?_
  rintro e w2 ⟨rfl, b2⟩
  have HB2 := Lib.hid (HB.out.trans (b2.mono HB.out.size))
  clear b2
  go_wp2_with fail
  go_ret
  exact ⟨rfl, HB2.out⟩
end Go.Proofs.Ytdkcfhmdgignhaa.Rl
