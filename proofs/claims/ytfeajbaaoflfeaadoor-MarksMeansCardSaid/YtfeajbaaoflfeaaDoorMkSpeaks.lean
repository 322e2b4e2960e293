/-
  The sentence that each statement of layer 2 opens with.
-/
import Derived.Test.YtfeajbaaoflfeaaDoorMkLaid
namespace Go.Proofs.YtfeajbaaoflfeaaDoor.Mk
open Go.RowKit

theorem same_any (a b : Nat) (w : World) : Calls Tryd.prog 12 #[.float .f64 a, .float .f64 b] w fun e w' => e = .returned (.bool ((a : Int) == (b : Int))) ∧ w = w' := by
  have h1 := mbits a
  have h2 := mbits b
  go_enter Tryd.func12, Tryd.ntmps12
  go_wp2
  go_ret
  exact ⟨rfl, rfl⟩
theorem same_self (a : Nat) (w : World) : Calls Tryd.prog 12 #[.float .f64 a, .float .f64 a] w fun e w' => e = .returned (.bool true) ∧ w = w' := by
  have := same_any a a w
  rw [show ((a : Int) == (a : Int)) = true from by simp] at this
  exact this

/-- The two marks of the sentence, as they are laid. -/
def pair : Obj := .cells #[.float .f64 4607182418800017408, .float .f64 4611686018427387904] 24
theorem pair_fls (w : World) : Fls (w.alloc pair) (some ⟨w.heap.size, 0, none⟩) 2 [4607182418800017408, 4611686018427387904] := by
  unfold pair
  refine ⟨rfl, by decide, fun _ => ⟨w.heap.size, 0, rfl, by rw [size_alloc]; omega, fun i hi => ?_⟩⟩
  rw [Nat.zero_add, cell_of_row _ _ _ _ _ (0, 0) (heap_alloc_new w _)]
  match i, hi with
  | 0, _ => rfl
  | 1, _ => rfl
theorem mean_at (w : World) : Calls Tryd.prog 24 #[.slice (some ⟨w.heap.size, 0, none⟩) 2 2] (w.alloc pair) fun e w' => e = .returned (.tuple #[.float .f64 4609434218613702656, .int .i64 2]) ∧ Drew (w.alloc pair) w' := by
  have := mean_any (some ⟨w.heap.size, 0, none⟩) 2 2 _ (by omega) (w.alloc pair) (pair_fls w)
  rw [show mean [4607182418800017408, 4611686018427387904] = (4609434218613702656, 2) from by decide +kernel] at this
  exact this
theorem share_at (w : World) : Calls Tryd.prog 28 #[.int .i64 1, .int .i64 3] w fun e w' => e = .returned (.float .f64 4629888066921343659) ∧ Drew w w' := by
  have := share_any 1 3 w
  rw [show share 1 3 = 4629888066921343659 from by decide +kernel] at this
  exact this
def eight : ByteArray := ⟨#[63, 240, 0, 0, 0, 0, 0, 0]⟩
theorem put_at (w : World) : Calls Tryd.prog 10 #[.float .f64 4607182418800017408] w fun e w' => e = .returned (.string eight) ∧ Below w.heap.size w w' := by
  have := put_any 4607182418800017408 (by omega) w
  rw [show (⟨(Oct.be 8 (canon 4607182418800017408)).toArray⟩ : ByteArray) = eight from by decide +kernel] at this
  exact this

set_option maxHeartbeats 1000000 in
theorem speaks_true (w : World) (ht : Tab w) (hl : Low w) :
    Calls Tryd.prog 8 #[] w fun e w' => e = .returned (.bool true) ∧ Below w.heap.size w w' := by
  have t1 : (FloatKind.f64.format.order 4609434218613702656 4609434218613702656 == some .eq) = true := by decide +kernel
  have t2 : (shown.toList == [51, 51, 46, 51, 51, 51, 51, 51, 51, 51, 51, 51, 51, 51, 51, 51, 51, 54]) = true := by decide +kernel
  have t3 : eight.size = 8 := rfl
  have t4 : (shown.toList == (⟨#[51, 51, 46, 51, 51, 51, 51, 51, 51, 51, 51, 51, 51, 51, 51, 51, 51, 54]⟩ : ByteArray).toList) = true := by decide +kernel
  have M := Lib.hid (mean_at w)
  unfold pair at M
  have b0 : Below w.heap.size w (w.alloc pair) := (Below.refl _ _).alloc (Nat.le_refl _) _
  unfold pair at b0
  have HT := Lib.hid ht
  clear ht
  go_enter Tryd.func8, Tryd.ntmps8
  go_wp2_with fail
  refine M.out.mono ?_
  rintro e w1 ⟨rfl, hd1⟩
  have b1 := b0.trans (hd1.below _)
  clear hd1 b0
  go_wp2_with fail
  refine (share_at _).mono ?_
  rintro e w2 ⟨rfl, hd2⟩
  have b2 := b1.trans (hd2.below _)
  clear hd2 b1
  go_wp2_with fail
  refine (show_at _ (HT.out.of hl b2) (hl.of b2)).mono ?_
  rintro e w3 ⟨rfl, b3'⟩
  have b3 := b2.trans (b3'.mono b2.size)
  clear b3' b2
  go_wp2_with fail
  refine (put_at _).mono ?_
  rintro e w4 ⟨rfl, b4⟩
  go_wp2
  go_ret
  exact ⟨rfl, b3.trans (b4.mono b3.size)⟩

end Go.Proofs.YtfeajbaaoflfeaaDoor.Mk
