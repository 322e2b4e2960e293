/-
  The walks of strconv's small functions at the one mark that the statements of layer 2 open with.
-/
import Derived.Test.YtfeajbaaoflfeaaDoorRows
import Derived.WalkKit
import Derived.WalkSpells
import Derived.WalkLawsBesides
import Derived.Lib.Hide
import Derived.BigQuiet
import Derived.Deep.QuietTactic
import Derived.RegionTactic
import Derived.Laws.BitsAllLaws
namespace Go.Proofs.YtfeajbaaoflfeaaDoor.Mk
open Go.RowKit

theorem log10_at (w : World) : Calls Tryd.prog 61 #[.int .i64 (-47)] w fun e w' => e = .returned (.int .i64 (-15)) ∧ w = w' := by
  go_enter Tryd.func61, Tryd.ntmps61
  go_wp2
  go_ret
  exact ⟨rfl, rfl⟩
theorem log2_at (w : World) : Calls Tryd.prog 73 #[.int .i64 15] w fun e w' => e = .returned (.int .i64 49) ∧ w = w' := by
  go_enter Tryd.func73, Tryd.ntmps73
  go_wp2
  go_ret
  exact ⟨rfl, rfl⟩
/-- The table of powers, at the one place that is read; the table of the small ones, too. -/
def Tab (w : World) : Prop :=
  w.cell? ⟨3, 726, none⟩ = some (.int .u64 16384000000000000000) ∧ w.cell? ⟨3, 727, none⟩ = some (.int .u64 0) ∧
  w.cell? ⟨2, 16, none⟩ = some (.int .u64 10000000000000000)
/-- The tables lie below. -/
def Low (w : World) : Prop := 3 < w.heap.size ∧ 2 < w.heap.size
theorem Tab.of {w w' : World} (h : Tab w) (hl : Low w) (hb : Below w.heap.size w w') : Tab w' := by
  obtain ⟨h1, h2, h3⟩ := h
  refine ⟨?_, ?_, ?_⟩
  · rw [hb.cell (p := ⟨_, _, none⟩) hl.1]; exact h1
  · rw [hb.cell (p := ⟨_, _, none⟩) hl.1]; exact h2
  · rw [hb.cell (p := ⟨_, _, none⟩) hl.2]; exact h3
theorem Low.of {w w' : World} (hl : Low w) (hb : Below w.heap.size w w') : Low w' := ⟨Nat.lt_of_lt_of_le hl.1 hb.size, Nat.lt_of_lt_of_le hl.2 hb.size⟩


theorem and_a : bits .and .i64 4691249611844267 1 = 1 := by decide +kernel
theorem and_b : bits .and .i64 6 63 = 6 := by decide +kernel

theorem mul_min (w : World) : Calls Tryd.prog 91 #[.int .u64 9607679205057057792, .int .u64 16384000000000000000] w fun e w' => e = .returned (.tuple #[.int .u64 8533333333333333030, .int .u64 3107035691897323520]) ∧ w = w' := by
  go_enter Tryd.func91, Tryd.ntmps91
  go_wp2
  go_ret2
  exact ⟨rfl, rfl⟩
set_option maxHeartbeats 1000000 in
theorem uscale_min (B : Nat) (w : World) (c0 : w.cell? ⟨B, 0, none⟩ = some (.int .u64 16384000000000000000)) (c2 : w.cell? ⟨B, 2, none⟩ = some (.int .i64 6)) :
    Calls Tryd.prog 74 #[.int .u64 9607679205057057792, .pointer (some ⟨B, 0, none⟩)] w fun e w' => e = .returned (.int .u64 133333333333333329) ∧ w = w' := by
  have hb := and_b
  have ho : bits .or .u64 133333333333333328 1 = 133333333333333329 := by decide +kernel
  go_enter Tryd.func74, Tryd.ntmps74
  go_wp2_with fail
  refine (mul_min _).mono ?_
  rintro e w' ⟨rfl, rfl⟩
  go_wp2
  go_ret
  exact ⟨rfl, rfl⟩

theorem mul_max (w : World) : Calls Tryd.prog 91 #[.int .u64 9607679205057059840, .int .u64 16384000000000000000] w fun e w' => e = .returned (.tuple #[.int .u64 8533333333333334849, .int .u64 2911565614222934016]) ∧ w = w' := by
  go_enter Tryd.func91, Tryd.ntmps91
  go_wp2
  go_ret2
  exact ⟨rfl, rfl⟩
set_option maxHeartbeats 1000000 in
theorem uscale_max (B : Nat) (w : World) (c0 : w.cell? ⟨B, 0, none⟩ = some (.int .u64 16384000000000000000)) (c2 : w.cell? ⟨B, 2, none⟩ = some (.int .i64 6)) :
    Calls Tryd.prog 74 #[.int .u64 9607679205057059840, .pointer (some ⟨B, 0, none⟩)] w fun e w' => e = .returned (.int .u64 133333333333333357) ∧ w = w' := by
  have hb := and_b
  have ho : bits .or .u64 133333333333333356 1 = 133333333333333357 := by decide +kernel
  go_enter Tryd.func74, Tryd.ntmps74
  go_wp2_with fail
  refine (mul_max _).mono ?_
  rintro e w' ⟨rfl, rfl⟩
  go_wp2
  go_ret
  exact ⟨rfl, rfl⟩

theorem mul_mid (w : World) : Calls Tryd.prog 91 #[.int .u64 9607679205057058816, .int .u64 16384000000000000000] w fun e w' => e = .returned (.tuple #[.int .u64 8533333333333333939, .int .u64 12232672689914904576]) ∧ w = w' := by
  go_enter Tryd.func91, Tryd.ntmps91
  go_wp2
  go_ret2
  exact ⟨rfl, rfl⟩
set_option maxHeartbeats 1000000 in
theorem uscale_mid (B : Nat) (w : World) (c0 : w.cell? ⟨B, 0, none⟩ = some (.int .u64 16384000000000000000)) (c2 : w.cell? ⟨B, 2, none⟩ = some (.int .i64 6)) :
    Calls Tryd.prog 74 #[.int .u64 9607679205057058816, .pointer (some ⟨B, 0, none⟩)] w fun e w' => e = .returned (.int .u64 133333333333333343) ∧ w = w' := by
  have hb := and_b
  have ho : bits .or .u64 133333333333333342 1 = 133333333333333343 := by decide +kernel
  go_enter Tryd.func74, Tryd.ntmps74
  go_wp2_with fail
  refine (mul_mid _).mono ?_
  rintro e w' ⟨rfl, rfl⟩
  go_wp2
  go_ret
  exact ⟨rfl, rfl⟩

theorem nudge_at (w : World) : Calls Tryd.prog 75 #[.int .u64 133333333333333329, .int .i64 1] w fun e w' => e = .returned (.int .u64 133333333333333330) ∧ w = w' := by
  have hr : bits .and .u64 33333333333333335 1 = 1 := by decide +kernel
  go_enter Tryd.func75, Tryd.ntmps75
  go_wp2
  go_ret
  exact ⟨rfl, rfl⟩
theorem ceil_at (w : World) : Calls Tryd.prog 76 #[.int .u64 133333333333333330] w fun e w' => e = .returned (.int .u64 33333333333333333) ∧ w = w' := by
  have hr : bits .and .u64 33333333333333335 1 = 1 := by decide +kernel
  go_enter Tryd.func76, Tryd.ntmps76
  go_wp2
  go_ret
  exact ⟨rfl, rfl⟩
theorem nudge2_at (w : World) : Calls Tryd.prog 75 #[.int .u64 133333333333333357, .int .i64 (-1)] w fun e w' => e = .returned (.int .u64 133333333333333356) ∧ w = w' := by
  have hr : bits .and .u64 33333333333333335 1 = 1 := by decide +kernel
  go_enter Tryd.func75, Tryd.ntmps75
  go_wp2
  go_ret
  exact ⟨rfl, rfl⟩
theorem floor_at (w : World) : Calls Tryd.prog 77 #[.int .u64 133333333333333356] w fun e w' => e = .returned (.int .u64 33333333333333339) ∧ w = w' := by
  have hr : bits .and .u64 33333333333333335 1 = 1 := by decide +kernel
  go_enter Tryd.func77, Tryd.ntmps77
  go_wp2
  go_ret
  exact ⟨rfl, rfl⟩
theorem round_at (w : World) : Calls Tryd.prog 78 #[.int .u64 133333333333333343] w fun e w' => e = .returned (.int .u64 33333333333333336) ∧ w = w' := by
  have hr : bits .and .u64 33333333333333335 1 = 1 := by decide +kernel
  go_enter Tryd.func78, Tryd.ntmps78
  go_wp2
  go_ret
  exact ⟨rfl, rfl⟩

/-- What shortFloat lays for its scaler. -/
def scaler0 : Obj := .cells #[.int .u64 0, .int .u64 0, .int .i64 0] 92
def scaler1 : Obj := .cells #[.int .u64 16384000000000000000, .int .u64 0, .int .i64 6] 92
set_option maxHeartbeats 1000000 in
theorem prescale_at (w : World) (ht : Tab w) (hl : Low w) :
    Calls Tryd.prog 72 #[.pointer (some ⟨w.heap.size, 0, none⟩), .int .i64 (-58), .int .i64 15, .int .i64 49] (w.alloc scaler0) fun e w' => e = .returned (.tuple #[]) ∧ w.alloc scaler1 = w' := by
  unfold scaler0 scaler1
  obtain ⟨h1, h2, h3⟩ := ht
  obtain ⟨l1, l2⟩ := hl
  go_enter Tryd.func72, Tryd.ntmps72
  go_wp2
  go_end0
  exact ⟨rfl, rfl⟩

set_option maxHeartbeats 1000000 in
theorem short_at (w : World) (ht : Tab w) (hl : Low w) :
    Calls Tryd.prog 66 #[.int .u64 9607679205057058816, .int .i64 (-58)] w fun e w' => e = .returned (.tuple #[.int .u64 33333333333333336, .int .i64 (-15)]) ∧ Below w.heap.size w w' := by
  have ha := and_a
  have K := Lib.hid (prescale_at w ht hl)
  have c0 : (w.alloc scaler1).cell? ⟨w.heap.size, 0, none⟩ = some (.int .u64 16384000000000000000) := cell_of_row _ _ _ _ _ (0, 0) (heap_alloc_new w _)
  have c2 : (w.alloc scaler1).cell? ⟨w.heap.size, 2, none⟩ = some (.int .i64 6) := cell_of_row _ _ _ _ _ (0, 0) (heap_alloc_new w _)
  have hb1 : Below w.heap.size w (w.alloc scaler1) := (Below.refl _ _).alloc (Nat.le_refl _) _
  obtain ⟨w1, hw1⟩ : ∃ w1, w1 = w.alloc scaler1 := ⟨_, rfl⟩
  rw [← hw1] at K c0 c2 hb1
  clear hw1
  clear ht hl
  go_enter Tryd.func66, Tryd.ntmps66
  go_wp2_with fail
  refine (log10_at _).mono ?_
  rintro e w' ⟨rfl, rfl⟩
  go_wp2_with fail
  refine (log2_at _).mono ?_
  rintro e w' ⟨rfl, rfl⟩
  go_wp2_with fail
  refine K.out.mono ?_
  rintro e w' ⟨rfl, rfl⟩
  go_wp2_with fail
  refine (uscale_min _ _ c0 c2).mono ?_
  rintro e w' ⟨rfl, rfl⟩
  go_wp2_with fail
  refine (nudge_at _).mono ?_
  rintro e w' ⟨rfl, rfl⟩
  go_wp2_with fail
  refine (ceil_at _).mono ?_
  rintro e w' ⟨rfl, rfl⟩
  go_wp2_with fail
  refine (uscale_max _ _ c0 c2).mono ?_
  rintro e w' ⟨rfl, rfl⟩
  go_wp2_with fail
  refine (nudge2_at _).mono ?_
  rintro e w' ⟨rfl, rfl⟩
  go_wp2_with fail
  refine (floor_at _).mono ?_
  rintro e w' ⟨rfl, rfl⟩
  go_wp2_with fail
  refine (uscale_mid _ _ c0 c2).mono ?_
  rintro e w' ⟨rfl, rfl⟩
  go_wp2_with fail
  refine (round_at _).mono ?_
  rintro e w' ⟨rfl, rfl⟩
  go_wp2
  go_ret2
  exact ⟨rfl, hb1⟩

end Go.Proofs.YtfeajbaaoflfeaaDoor.Mk
