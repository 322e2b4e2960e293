/-
  The law's speaks: a grammar that loops.
-/
import Derived.Test.YtlkijnglpllcdaaFxNone
namespace Go.Proofs.Ytlkijnglpllcdaa.Fx
open Go.RowKit
set_option maxRecDepth 100000
set_option linter.unusedSimpArgs false

def g0 : PG := ⟨0, 1, [⟨#[83]⟩], [⟨#[120]⟩], [⟨0, [0, 0]⟩, ⟨0, [-1]⟩, ⟨0, []⟩]⟩
theorem g0_sound : soundB g0 = true := by kernel_rfl
theorem g0_least {L : List Int} (h : Least g0 L) : L = [0] := by
  obtain ⟨h1, h2⟩ := runs_ok h.runs
  have h1 : L.length = 1 := h1
  obtain ⟨d, rfl⟩ := List.length_eq_one_iff.1 h1
  have h3 := h.fix ⟨0, []⟩ (by simp [g0])
  have h4 := h2 d (by simp)
  unfold FixAt at h3
  simp [shRow, shGo] at h3
  have : d = 0 := by omega
  rw [this]
theorem g0_loops : loopsT g0 [0] 0 := .base _ (by decide)
theorem g0_fits : g0.Fits := by
  refine ⟨?_, fun s hs => ?_, fun s hs => ?_, fun p hp => ?_⟩
  · exact ⟨by decide, by decide, by decide⟩
  · simp [g0] at hs; subst hs; decide
  · simp [g0] at hs; subst hs; decide
  · simp [g0] at hp; rcases hp with rfl | rfl | rfl <;> decide
theorem g0_mem (W : World) : PgAt (fun q => W.heap.size ≤ q) ((((((W.alloc (.cells #[.string ⟨#[83]⟩] 9)).alloc (.cells #[.string ⟨#[120]⟩] 9)).alloc (.cells #[.int .i64 0, .int .i64 0] 3)).alloc (.cells #[.int .i64 (-1)] 3)).alloc (.cells #[.int .i64 0, .slice (some ⟨W.heap.size + 1 + 1, 0, none⟩) 2 2, .int .i64 0, .slice (some ⟨W.heap.size + 1 + 1 + 1, 0, none⟩) 1 1, .int .i64 0, .slice none 0 0] 47)).alloc (.cells #[.int .i64 0, .int .i64 1, .slice (some ⟨W.heap.size, 0, none⟩) 1 1, .slice (some ⟨W.heap.size + 1, 0, none⟩) 1 1, .slice (some ⟨W.heap.size + 1 + 1 + 1 + 1, 0, none⟩) 3 3] 30)) g0 (.agg #[.int .i64 0, .int .i64 1, .slice (some ⟨W.heap.size, 0, none⟩) 1 1, .slice (some ⟨W.heap.size + 1, 0, none⟩) 1 1, .slice (some ⟨W.heap.size + 1 + 1 + 1 + 1, 0, none⟩) 3 3]) ∧ Below W.heap.size W ((((((W.alloc (.cells #[.string ⟨#[83]⟩] 9)).alloc (.cells #[.string ⟨#[120]⟩] 9)).alloc (.cells #[.int .i64 0, .int .i64 0] 3)).alloc (.cells #[.int .i64 (-1)] 3)).alloc (.cells #[.int .i64 0, .slice (some ⟨W.heap.size + 1 + 1, 0, none⟩) 2 2, .int .i64 0, .slice (some ⟨W.heap.size + 1 + 1 + 1, 0, none⟩) 1 1, .int .i64 0, .slice none 0 0] 47)).alloc (.cells #[.int .i64 0, .int .i64 1, .slice (some ⟨W.heap.size, 0, none⟩) 1 1, .slice (some ⟨W.heap.size + 1, 0, none⟩) 1 1, .slice (some ⟨W.heap.size + 1 + 1 + 1 + 1, 0, none⟩) 3 3] 30)) ∧ ((((((W.alloc (.cells #[.string ⟨#[83]⟩] 9)).alloc (.cells #[.string ⟨#[120]⟩] 9)).alloc (.cells #[.int .i64 0, .int .i64 0] 3)).alloc (.cells #[.int .i64 (-1)] 3)).alloc (.cells #[.int .i64 0, .slice (some ⟨W.heap.size + 1 + 1, 0, none⟩) 2 2, .int .i64 0, .slice (some ⟨W.heap.size + 1 + 1 + 1, 0, none⟩) 1 1, .int .i64 0, .slice none 0 0] 47)).alloc (.cells #[.int .i64 0, .int .i64 1, .slice (some ⟨W.heap.size, 0, none⟩) 1 1, .slice (some ⟨W.heap.size + 1, 0, none⟩) 1 1, .slice (some ⟨W.heap.size + 1 + 1 + 1 + 1, 0, none⟩) 3 3] 30)).heap[W.heap.size + 1 + 1 + 1 + 1 + 1]? = some (.cells #[.int .i64 0, .int .i64 1, .slice (some ⟨W.heap.size, 0, none⟩) 1 1, .slice (some ⟨W.heap.size + 1, 0, none⟩) 1 1, .slice (some ⟨W.heap.size + 1 + 1 + 1 + 1, 0, none⟩) 3 3] 30 (0, 0)) := by
  obtain ⟨V1, hV1⟩ : ∃ V, V = W.alloc (.cells #[.string ⟨#[83]⟩] 9) := ⟨_, rfl⟩
  have s1 : V1.heap.size = W.heap.size + 1 := by rw [hV1]; simp
  have n0_1 : V1.heap[W.heap.size]? = some (.cells #[.string ⟨#[83]⟩] 9 (0, 0)) := by rw [hV1]; have := heap_alloc_new W (.cells #[.string ⟨#[83]⟩] 9); exact this
  have b1 : Below W.heap.size W V1 := by rw [hV1]; exact (Below.refl _ W).alloc (by omega) _
  obtain ⟨V2, hV2⟩ : ∃ V, V = V1.alloc (.cells #[.string ⟨#[120]⟩] 9) := ⟨_, rfl⟩
  have s2 : V2.heap.size = W.heap.size + 1 + 1 := by rw [hV2]; simp [s1]
  have n1_2 : V2.heap[W.heap.size + 1]? = some (.cells #[.string ⟨#[120]⟩] 9 (0, 0)) := by rw [hV2]; have := heap_alloc_new V1 (.cells #[.string ⟨#[120]⟩] 9); rw [s1] at this; exact this
  have n0_2 : V2.heap[W.heap.size]? = some (.cells #[.string ⟨#[83]⟩] 9 (0, 0)) := by rw [hV2]; exact (heap_alloc_old V1 _ (by omega)).trans n0_1
  have b2 : Below W.heap.size W V2 := by rw [hV2]; exact b1.alloc (by omega) _
  obtain ⟨V3, hV3⟩ : ∃ V, V = V2.alloc (.cells #[.int .i64 0, .int .i64 0] 3) := ⟨_, rfl⟩
  have s3 : V3.heap.size = W.heap.size + 1 + 1 + 1 := by rw [hV3]; simp [s2]
  have n2_3 : V3.heap[W.heap.size + 1 + 1]? = some (.cells #[.int .i64 0, .int .i64 0] 3 (0, 0)) := by rw [hV3]; have := heap_alloc_new V2 (.cells #[.int .i64 0, .int .i64 0] 3); rw [s2] at this; exact this
  have n0_3 : V3.heap[W.heap.size]? = some (.cells #[.string ⟨#[83]⟩] 9 (0, 0)) := by rw [hV3]; exact (heap_alloc_old V2 _ (by omega)).trans n0_2
  have n1_3 : V3.heap[W.heap.size + 1]? = some (.cells #[.string ⟨#[120]⟩] 9 (0, 0)) := by rw [hV3]; exact (heap_alloc_old V2 _ (by omega)).trans n1_2
  have b3 : Below W.heap.size W V3 := by rw [hV3]; exact b2.alloc (by omega) _
  obtain ⟨V4, hV4⟩ : ∃ V, V = V3.alloc (.cells #[.int .i64 (-1)] 3) := ⟨_, rfl⟩
  have s4 : V4.heap.size = W.heap.size + 1 + 1 + 1 + 1 := by rw [hV4]; simp [s3]
  have n3_4 : V4.heap[W.heap.size + 1 + 1 + 1]? = some (.cells #[.int .i64 (-1)] 3 (0, 0)) := by rw [hV4]; have := heap_alloc_new V3 (.cells #[.int .i64 (-1)] 3); rw [s3] at this; exact this
  have n0_4 : V4.heap[W.heap.size]? = some (.cells #[.string ⟨#[83]⟩] 9 (0, 0)) := by rw [hV4]; exact (heap_alloc_old V3 _ (by omega)).trans n0_3
  have n1_4 : V4.heap[W.heap.size + 1]? = some (.cells #[.string ⟨#[120]⟩] 9 (0, 0)) := by rw [hV4]; exact (heap_alloc_old V3 _ (by omega)).trans n1_3
  have n2_4 : V4.heap[W.heap.size + 1 + 1]? = some (.cells #[.int .i64 0, .int .i64 0] 3 (0, 0)) := by rw [hV4]; exact (heap_alloc_old V3 _ (by omega)).trans n2_3
  have b4 : Below W.heap.size W V4 := by rw [hV4]; exact b3.alloc (by omega) _
  obtain ⟨V5, hV5⟩ : ∃ V, V = V4.alloc (.cells #[.int .i64 0, .slice (some ⟨W.heap.size + 1 + 1, 0, none⟩) 2 2, .int .i64 0, .slice (some ⟨W.heap.size + 1 + 1 + 1, 0, none⟩) 1 1, .int .i64 0, .slice none 0 0] 47) := ⟨_, rfl⟩
  have s5 : V5.heap.size = W.heap.size + 1 + 1 + 1 + 1 + 1 := by rw [hV5]; simp [s4]
  have n4_5 : V5.heap[W.heap.size + 1 + 1 + 1 + 1]? = some (.cells #[.int .i64 0, .slice (some ⟨W.heap.size + 1 + 1, 0, none⟩) 2 2, .int .i64 0, .slice (some ⟨W.heap.size + 1 + 1 + 1, 0, none⟩) 1 1, .int .i64 0, .slice none 0 0] 47 (0, 0)) := by rw [hV5]; have := heap_alloc_new V4 (.cells #[.int .i64 0, .slice (some ⟨W.heap.size + 1 + 1, 0, none⟩) 2 2, .int .i64 0, .slice (some ⟨W.heap.size + 1 + 1 + 1, 0, none⟩) 1 1, .int .i64 0, .slice none 0 0] 47); rw [s4] at this; exact this
  have n0_5 : V5.heap[W.heap.size]? = some (.cells #[.string ⟨#[83]⟩] 9 (0, 0)) := by rw [hV5]; exact (heap_alloc_old V4 _ (by omega)).trans n0_4
  have n1_5 : V5.heap[W.heap.size + 1]? = some (.cells #[.string ⟨#[120]⟩] 9 (0, 0)) := by rw [hV5]; exact (heap_alloc_old V4 _ (by omega)).trans n1_4
  have n2_5 : V5.heap[W.heap.size + 1 + 1]? = some (.cells #[.int .i64 0, .int .i64 0] 3 (0, 0)) := by rw [hV5]; exact (heap_alloc_old V4 _ (by omega)).trans n2_4
  have n3_5 : V5.heap[W.heap.size + 1 + 1 + 1]? = some (.cells #[.int .i64 (-1)] 3 (0, 0)) := by rw [hV5]; exact (heap_alloc_old V4 _ (by omega)).trans n3_4
  have b5 : Below W.heap.size W V5 := by rw [hV5]; exact b4.alloc (by omega) _
  obtain ⟨V6, hV6⟩ : ∃ V, V = V5.alloc (.cells #[.int .i64 0, .int .i64 1, .slice (some ⟨W.heap.size, 0, none⟩) 1 1, .slice (some ⟨W.heap.size + 1, 0, none⟩) 1 1, .slice (some ⟨W.heap.size + 1 + 1 + 1 + 1, 0, none⟩) 3 3] 30) := ⟨_, rfl⟩
  have s6 : V6.heap.size = W.heap.size + 1 + 1 + 1 + 1 + 1 + 1 := by rw [hV6]; simp [s5]
  have n5_6 : V6.heap[W.heap.size + 1 + 1 + 1 + 1 + 1]? = some (.cells #[.int .i64 0, .int .i64 1, .slice (some ⟨W.heap.size, 0, none⟩) 1 1, .slice (some ⟨W.heap.size + 1, 0, none⟩) 1 1, .slice (some ⟨W.heap.size + 1 + 1 + 1 + 1, 0, none⟩) 3 3] 30 (0, 0)) := by rw [hV6]; have := heap_alloc_new V5 (.cells #[.int .i64 0, .int .i64 1, .slice (some ⟨W.heap.size, 0, none⟩) 1 1, .slice (some ⟨W.heap.size + 1, 0, none⟩) 1 1, .slice (some ⟨W.heap.size + 1 + 1 + 1 + 1, 0, none⟩) 3 3] 30); rw [s5] at this; exact this
  have n0_6 : V6.heap[W.heap.size]? = some (.cells #[.string ⟨#[83]⟩] 9 (0, 0)) := by rw [hV6]; exact (heap_alloc_old V5 _ (by omega)).trans n0_5
  have n1_6 : V6.heap[W.heap.size + 1]? = some (.cells #[.string ⟨#[120]⟩] 9 (0, 0)) := by rw [hV6]; exact (heap_alloc_old V5 _ (by omega)).trans n1_5
  have n2_6 : V6.heap[W.heap.size + 1 + 1]? = some (.cells #[.int .i64 0, .int .i64 0] 3 (0, 0)) := by rw [hV6]; exact (heap_alloc_old V5 _ (by omega)).trans n2_5
  have n3_6 : V6.heap[W.heap.size + 1 + 1 + 1]? = some (.cells #[.int .i64 (-1)] 3 (0, 0)) := by rw [hV6]; exact (heap_alloc_old V5 _ (by omega)).trans n3_5
  have n4_6 : V6.heap[W.heap.size + 1 + 1 + 1 + 1]? = some (.cells #[.int .i64 0, .slice (some ⟨W.heap.size + 1 + 1, 0, none⟩) 2 2, .int .i64 0, .slice (some ⟨W.heap.size + 1 + 1 + 1, 0, none⟩) 1 1, .int .i64 0, .slice none 0 0] 47 (0, 0)) := by rw [hV6]; exact (heap_alloc_old V5 _ (by omega)).trans n4_5
  have b6 : Below W.heap.size W V6 := by rw [hV6]; exact b5.alloc (by omega) _
  rw [← hV1, ← hV2, ← hV3, ← hV4, ← hV5, ← hV6]
  have c : ∀ b j cs t v, V6.heap[b]? = some (.cells cs t (0, 0)) → cs[j]? = some v → V6.cell? ⟨b, j, none⟩ = some v := fun b j cs t v h1 h2 => (cell_of_row _ _ j _ _ (0, 0) h1).trans h2
  refine ⟨⟨_, _, _, rfl, ⟨_, 1, W.heap.size, rfl, Nat.le_refl _, fun _ => ⟨rfl, by omega, Nat.le_refl _⟩, fun i hi => ?_⟩, ⟨_, 1, W.heap.size + 1, rfl, Nat.le_refl _, fun _ => ⟨rfl, by omega, by omega⟩, fun i hi => ?_⟩, ⟨_, 3, W.heap.size + 1 + 1 + 1 + 1, fun i => if i = 0 then .slice (some ⟨W.heap.size + 1 + 1, 0, none⟩) 2 2 else if i = 1 then .slice (some ⟨W.heap.size + 1 + 1 + 1, 0, none⟩) 1 1 else .slice none 0 0, rfl, Nat.le_refl _, fun _ => ⟨rfl, by omega, by omega⟩, fun i hi => ?_⟩⟩, b6, n5_6⟩
  · have : i = 0 := by simp [g0] at hi; omega
    subst this
    exact c _ _ _ _ _ n0_6 rfl
  · have : i = 0 := by simp [g0] at hi; omega
    subst this
    exact c _ _ _ _ _ n1_6 rfl
  · have : i = 0 ∨ i = 1 ∨ i = 2 := by simp [g0] at hi; omega
    rcases this with rfl | rfl | rfl
    · refine ⟨c _ _ _ _ _ n4_6 rfl, c _ _ _ _ _ n4_6 rfl, _, 2, W.heap.size + 1 + 1, rfl, Nat.le_refl _, fun _ => ⟨rfl, by omega, by omega⟩, fun i hi => ?_⟩
      have : i = 0 ∨ i = 1 := by simp [g0] at hi; omega
      rcases this with rfl | rfl
      · exact c _ _ _ _ _ n2_6 rfl
      · exact c _ _ _ _ _ n2_6 rfl
    · refine ⟨c _ _ _ _ _ n4_6 rfl, c _ _ _ _ _ n4_6 rfl, _, 1, W.heap.size + 1 + 1 + 1, rfl, Nat.le_refl _, fun _ => ⟨rfl, by omega, by omega⟩, fun i hi => ?_⟩
      have : i = 0 := by simp [g0] at hi; omega
      subst this
      exact c _ _ _ _ _ n3_6 rfl
    · exact ⟨c _ _ _ _ _ n4_6 rfl, c _ _ _ _ _ n4_6 rfl, IntsAt.nil _ _ _ _⟩
set_option maxHeartbeats 4000000 in
theorem speaks_any (W : World) : Calls Try.prog 8 #[] W fun e w' => e = .returned (.bool true) ∧ Below W.heap.size W w' := by
  obtain ⟨hpg, hbb, hbx⟩ := g0_mem W
  go_enter Try.func8, Try.ntmps8
  go_wp2_with fail
  generalize hV : World.alloc _ _ = V
  rw [hV] at hpg hbb hbx
  clear hV
  obtain ⟨N, hN⟩ : ∃ N, N = W.heap.size + 1 + 1 + 1 + 1 + 1 := ⟨_, rfl⟩
  have HPG := Lib.hid hpg
  have HBB := Lib.hid hbb
  have HBX := Lib.hid hbx
  have y0 := cell_of_row _ _ 0 _ _ (0, 0) hbx
  have y1 := cell_of_row _ _ 1 _ _ (0, 0) hbx
  have y2 := cell_of_row _ _ 2 _ _ (0, 0) hbx
  have y3 := cell_of_row _ _ 3 _ _ (0, 0) hbx
  have y4 := cell_of_row _ _ 4 _ _ (0, 0) hbx
  have HKW := Lib.hid (fun (w' : World) (e : w'.heap[W.heap.size + 1 + 1 + 1 + 1 + 1]? = V.heap[W.heap.size + 1 + 1 + 1 + 1 + 1]?) => (⟨cell_of_row _ _ 0 _ _ (0, 0) (e.trans hbx), cell_of_row _ _ 1 _ _ (0, 0) (e.trans hbx), cell_of_row _ _ 2 _ _ (0, 0) (e.trans hbx), cell_of_row _ _ 3 _ _ (0, 0) (e.trans hbx), cell_of_row _ _ 4 _ _ (0, 0) (e.trans hbx)⟩ : w'.cell? ⟨W.heap.size + 1 + 1 + 1 + 1 + 1, 0, none⟩ = some (.int .i64 0) ∧ w'.cell? ⟨W.heap.size + 1 + 1 + 1 + 1 + 1, 1, none⟩ = some (.int .i64 1) ∧ w'.cell? ⟨W.heap.size + 1 + 1 + 1 + 1 + 1, 2, none⟩ = some (.slice (some ⟨W.heap.size, 0, none⟩) 1 1) ∧ w'.cell? ⟨W.heap.size + 1 + 1 + 1 + 1 + 1, 3, none⟩ = some (.slice (some ⟨W.heap.size + 1, 0, none⟩) 1 1) ∧ w'.cell? ⟨W.heap.size + 1 + 1 + 1 + 1 + 1, 4, none⟩ = some (.slice (some ⟨W.heap.size + 1 + 1 + 1 + 1, 0, none⟩) 3 3)))
  have HVL := Lib.hid (Gn.heap_lt hbx)
  clear hpg hbb hbx
  refine wp_region_noPanic ?_
  refine wp_region_held_drew (S := (fun W' => W'.cell? ⟨W.heap.size + 1 + 1 + 1 + 1 + 1, 0, none⟩ = some (.int .i64 0) ∧ W'.cell? ⟨W.heap.size + 1 + 1 + 1 + 1 + 1, 1, none⟩ = some (.int .i64 1) ∧ W'.cell? ⟨W.heap.size + 1 + 1 + 1 + 1 + 1, 2, none⟩ = some (.slice (some ⟨W.heap.size, 0, none⟩) 1 1) ∧ W'.cell? ⟨W.heap.size + 1 + 1 + 1 + 1 + 1, 3, none⟩ = some (.slice (some ⟨W.heap.size + 1, 0, none⟩) 1 1) ∧ W'.cell? ⟨W.heap.size + 1 + 1 + 1 + 1 + 1, 4, none⟩ = some (.slice (some ⟨W.heap.size + 1 + 1 + 1 + 1, 0, none⟩) 3 3))) (by kernel_rfl) ?_ (fun hHeld => ?_)
  · exact ⟨y0, y1, y2, y3, y4⟩
  refine wpAnyH_take (i := 0) (v := ?_) rfl (by kernel_rfl) (by kernel_rfl) (by kernel_rfl) (fun _ _ _ h => h) (Or.inl ⟨by rfl, ?_⟩) (by assumption) ?_
  rotate_left
  · intro w hSw
    try dsimp only at hSw
    go_simp
    try with_reducible rfl
  try simp only [Act.put, List.setIfInBounds_toArray, List.set_cons_zero, List.set_cons_succ]
  refine wpAnyH_take (i := 2) (v := ?_) rfl (by kernel_rfl) (by kernel_rfl) (by kernel_rfl) (fun _ _ _ h => h) (Or.inl ⟨by rfl, ?_⟩) (by assumption) ?_
  rotate_left
  · intro w hSw
    try dsimp only at hSw
    go_simp
    try with_reducible rfl
  try simp only [Act.put, List.setIfInBounds_toArray, List.set_cons_zero, List.set_cons_succ]
  refine wpAnyH_take (i := 4) (v := ?_) rfl (by kernel_rfl) (by kernel_rfl) (by kernel_rfl) (fun _ _ _ h => h) (Or.inl ⟨by rfl, ?_⟩) (by assumption) ?_
  rotate_left
  · intro w hSw
    try dsimp only at hSw
    go_simp
    try with_reducible rfl
  try simp only [Act.put, List.setIfInBounds_toArray, List.set_cons_zero, List.set_cons_succ]
  refine wpAnyH_ready (rs := [1]) (by kernel_rfl) (by simp) ?_
  refine AllReadyH.cons rfl (fun K hK => ?_) AllReadyH.nil
  go_simp
  go_at_call 14
  refine (nullable_any g0 g0_fits g0_sound _ _ _ (HPG.out.under (Below.refl V.heap.size V).drew)).mono ?_
  rintro e w3 ⟨u3, L3, rfl, hl3, ho3, b3⟩
  have e3 := g0_least hl3
  subst e3
  have ho3 : w3.ownsRow _ 4 1 u3 1 [.bool true] := ho3
  obtain ⟨g3, c3, rfl, _, hg3⟩ := ho3.form (by decide)
  have hz3 : w3.cell? ⟨g3, 0, none⟩ = some (.bool true) := ho3.cells (g := g3) rfl 0 _ rfl
  have HZ3 := Lib.hid hz3
  have HG3 := Lib.hid hg3
  have HB3 := Lib.hid (show Below V.heap.size V w3 from (Below.refl V.heap.size V).drew.trans b3)
  clear hl3 ho3 b3 hz3 hg3
  refine hK.out _ _ (HKW.out _ (HB3.out.block _ HVL.out)) (fun hHeld => ?_)
  clear hK K
  try simp only [Act.put, List.setIfInBounds_toArray, List.set_cons_zero, List.set_cons_succ]
  refine wpAnyH_ready (rs := [3]) (by kernel_rfl) (by simp) ?_
  refine AllReadyH.cons rfl (fun K hK => ?_) AllReadyH.nil
  go_simp
  go_at_call 10
  refine (shortest_any g0 g0_fits g0_sound _ _ _ (HPG.out.under HB3.out)).mono ?_
  rintro e w4 ⟨b4, L4, rfl, hb4, hr4, hl4, b4b⟩
  have e4 := g0_least hl4
  subst e4
  simp only [List.length_cons, List.length_nil, Nat.zero_add]
  have HZ4 := Lib.hid (hr4.cell 0 (by simp))
  have HG4 := Lib.hid (Gn.heap_lt hr4)
  have HR4 := Lib.hid hr4
  have HB4 := Lib.hid b4b
  clear hl4 hr4 hb4 b4b
  refine hK.out _ _ (HKW.out _ ((HB3.out.trans (HB4.out.mono HB3.out.size)).block _ HVL.out)) (fun hHeld => ?_)
  clear hK K
  try simp only [Act.put, List.setIfInBounds_toArray, List.set_cons_zero, List.set_cons_succ]
  refine wpAnyH_ready (rs := [5]) (by kernel_rfl) (by simp) ?_
  refine AllReadyH.cons rfl (fun K hK => ?_) AllReadyH.nil
  go_simp
  go_at_call 20
  refine (loops_any g0 g0_fits g0_sound _ _ _ (HPG.out.under (HB3.out.trans (HB4.out.mono HB3.out.size)))).mono ?_
  rintro e w5 ⟨L5, hl5, g5, T5, rfl, hg5, hr5, ht5, b5⟩
  have e5 := g0_least hl5
  subst e5
  rw [show g0.names.length = 1 from rfl] at hr5 ht5 ⊢
  have t5 := (ht5 0 (by decide)).2 g0_loops
  have hz5 := hr5.cell (i := 0) (by decide)
  rw [t5] at hz5
  have HZ5 := Lib.hid hz5
  have HR5 := Lib.hid hr5
  have HT5 := Lib.hid ht5
  have HB5 := Lib.hid b5
  clear hl5 hr5 ht5 hg5 b5 hz5 t5
  refine hK.out _ _ (HKW.out _ ((HB3.out.trans ((HB4.out.trans (HB5.out.mono HB4.out.size)).mono HB3.out.size)).block _ HVL.out)) (fun hHeld => ?_)
  clear hK K
  try simp only [Act.put, List.setIfInBounds_toArray, List.set_cons_zero, List.set_cons_succ]
  refine wpAnyH_take (i := 6) (v := ?_) rfl (by kernel_rfl) (by kernel_rfl) (by kernel_rfl) (fun _ _ _ h => h) (Or.inl ⟨by rfl, ?_⟩) (by assumption) ?_
  rotate_left
  · intro w hSw
    try dsimp only at hSw
    go_simp
    try with_reducible rfl
  try simp only [Act.put, List.setIfInBounds_toArray, List.set_cons_zero, List.set_cons_succ]
  refine wpAnyH_take (i := 7) (v := ?_) rfl (by kernel_rfl) (by kernel_rfl) (by kernel_rfl) (fun _ _ _ h => h) (Or.inl ⟨by rfl, ?_⟩) (by assumption) ?_
  rotate_left
  · intro w hSw
    try dsimp only at hSw
    go_simp
    try with_reducible rfl
  try simp only [Act.put, List.setIfInBounds_toArray, List.set_cons_zero, List.set_cons_succ]
  refine wpAnyH_take (i := 8) (v := ?_) rfl (by kernel_rfl) (by kernel_rfl) (by kernel_rfl) (fun _ _ _ h => h) (Or.inl ⟨by rfl, ?_⟩) (by assumption) ?_
  rotate_left
  · intro w hSw
    try dsimp only at hSw
    go_simp
    try with_reducible rfl
  try simp only [Act.put, List.setIfInBounds_toArray, List.set_cons_zero, List.set_cons_succ]
  refine wpAnyH_done (by kernel_rfl) ?_ _
  refine NoPanic.normal ?_
  have z5 := HZ5.out
  have z4 := (HB5.out.cell (p := ⟨b4, 0, none⟩) HG4.out).trans HZ4.out
  have z3 := (HB5.out.cell (p := ⟨g3, 0, none⟩) (Nat.lt_of_lt_of_le HG3.out HB4.out.size)).trans ((HB4.out.cell (p := ⟨g3, 0, none⟩) HG3.out).trans HZ3.out)
  simp only [List.getElem_cons_zero] at z4
  have HB := Lib.hid (HBB.out.trans ((HB3.out.trans ((HB4.out.trans (HB5.out.mono HB4.out.size)).mono HB3.out.size)).mono HBB.out.size))
  go_wp2
  go_ret
  exact ⟨rfl, HB.out⟩
end Go.Proofs.Ytlkijnglpllcdaa.Fx
