/-
  Layer 18: a member that holds.
  Layer 18: no member that holds.
-/
import Derived.Test.YtnmhgjoofgmcgaaGreatRlHolds
import Derived.Test.YtnmhgjoofgmcgaaGreatRlGood

namespace Go.Proofs.YtnmhgjoofgmcgaaGreat.Rl
open Go.RowKit
open Lx (bs)
set_option maxRecDepth 100000
set_option linter.unusedSimpArgs false
set_option linter.unusedVariables false
/-- A member as it must be. -/
def okM (m : Mem) : Bool := Lx.goodB (bs m.name) && decide (m.role = 1 ∨ m.role = 2) && decide (0 ≤ m.quota ∧ m.quota ≤ 65536)
set_option maxHeartbeats 8000000 in
theorem mholds_any (m : Mem) (hs : m.name.size ≤ 9223372036854775807) (W : World) :
    Calls Tryz.prog 80 #[.agg #[.string m.name, .int .i64 m.role, .int .i64 m.quota]] W fun e w' => e = .returned (.bool (okM m)) ∧ Below W.heap.size W w' := by
  obtain ⟨nm, rl, qt⟩ := m
  obtain ⟨V, hV⟩ : ∃ V, V = W.alloc (.cells #[.string nm, .int .i64 rl, .int .i64 qt] 45) := ⟨_, rfl⟩
  have hb : Below W.heap.size W V := by rw [hV]; exact (Below.refl _ _).alloc (Nat.le_refl _) _
  have hx : V.heap[W.heap.size]? = some (.cells #[.string nm, .int .i64 rl, .int .i64 qt] 45 (0, 0)) := by rw [hV]; exact heap_alloc_new _ _
  obtain ⟨g1, hg1⟩ : ∃ g1, g1 = Lx.goodB (bs nm) := ⟨_, rfl⟩
  obtain ⟨g2, hg2⟩ : ∃ g2, g2 = decide (rl = 1 ∨ rl = 2) := ⟨_, rfl⟩
  obtain ⟨g3, hg3⟩ : ∃ g3, g3 = decide (0 ≤ qt ∧ qt ≤ 65536) := ⟨_, rfl⟩
  have HG := Lib.hid (fun w => Lx.good_any nm w hs)
  have HR := Lib.hid (fun w => isRole_any rl w)
  have HQ := Lib.hid (fun w => isQuota_any qt w)
  have hok : okM ⟨nm, rl, qt⟩ = (g1 && g2 && g3) := by rw [hg1, hg2, hg3]; rfl
  rw [← hg1] at HG
  rw [← hg2] at HR
  rw [← hg3] at HQ
  rw [hok]
  have HV := Lib.hid hV
  have HB := Lib.hid hb
  have x0 := cell_of_row _ _ 0 _ _ (0, 0) hx
  have x1 := cell_of_row _ _ 1 _ _ (0, 0) hx
  have x2 := cell_of_row _ _ 2 _ _ (0, 0) hx
  clear hok hg1 hg2 hg3 hx hb hV hs
  cases g1 <;> cases g2 <;> cases g3
  all_goals
    go_enter Tryz.func80, Tryz.ntmps80
    go_upto_region 1 with fail
    rw [← HV.out]
    go_wp2_with (first
      | (go_at_call 53; refine (HG.out _).mono ?_; rintro e w2 ⟨rfl, rfl⟩)
      | (go_at_call 54; refine (HR.out _).mono ?_; rintro e w2 ⟨rfl, rfl⟩)
      | (go_at_call 61; refine (HQ.out _).mono ?_; rintro e w2 ⟨rfl, rfl⟩))
    go_ret
    exact ⟨rfl, HB.out⟩
end Go.Proofs.YtnmhgjoofgmcgaaGreat.Rl

namespace Go.Proofs.YtnmhgjoofgmcgaaGreat.Rl
open Go.RowKit
set_option maxRecDepth 100000
set_option linter.unusedSimpArgs false
set_option linter.unusedVariables false
set_option maxHeartbeats 8000000 in
theorem mbad_any (m : Mem) (hs : m.name.size ≤ 9223372036854775807) (W : World) :
    Calls Tryz.prog 79 #[.agg #[.string m.name, .int .i64 m.role, .int .i64 m.quota]] W fun e w' => e = .returned (.bool (!okM m)) ∧ Below W.heap.size W w' := by
  obtain ⟨V, hV⟩ : ∃ V, V = W.alloc (.cells #[.string m.name, .int .i64 m.role, .int .i64 m.quota] 45) := ⟨_, rfl⟩
  have hb : Below W.heap.size W V := by rw [hV]; exact (Below.refl _ _).alloc (Nat.le_refl _) _
  have hx : V.heap[W.heap.size]? = some (.cells #[.string m.name, .int .i64 m.role, .int .i64 m.quota] 45 (0, 0)) := by rw [hV]; exact heap_alloc_new _ _
  have HM := Lib.hid (fun w => mholds_any m hs w)
  have HV := Lib.hid hV
  have HB := Lib.hid hb
  have x0 := cell_of_row _ _ 0 _ _ (0, 0) hx
  have x1 := cell_of_row _ _ 1 _ _ (0, 0) hx
  have x2 := cell_of_row _ _ 2 _ _ (0, 0) hx
  clear hx hb hV hs
  go_enter Tryz.func79, Tryz.ntmps79
  go_upto_region 1 with fail
  rw [← HV.out]
  go_wp2_with fail
  refine (HM.out _).mono ?_
  rintro e w2 ⟨rfl, b2⟩
  have HB2 := Lib.hid (HB.out.trans (b2.mono HB.out.size))
  clear b2
  go_wp2_with fail
  go_ret
  exact ⟨rfl, HB2.out⟩
end Go.Proofs.YtnmhgjoofgmcgaaGreat.Rl
