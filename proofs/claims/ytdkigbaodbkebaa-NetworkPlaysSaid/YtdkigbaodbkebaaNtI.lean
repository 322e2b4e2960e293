/-
  Layer 27: the sentence that each statement opens with.
-/
import Derived.Test.YtdkigbaodbkebaaNtH
import Derived.Laws.StructEq
namespace Go.Proofs.Ytdkigbaodbkebaa.Nt
open Go.RowKit
set_option maxRecDepth 100000
set_option linter.unusedSimpArgs false
set_option linter.unusedVariables false
theorem send_few {base b : Nat} {fs : List Fr} {w : World} (h : NetAt base b fs w) (x y : Int) (t : ByteArray) (hn : fs.length < 1024) (hb : base ≤ w.heap.size) :
    Calls Try.prog 6 #[.pointer (some ⟨b, 0, none⟩), .int .i64 x, .int .i64 y, .string t] w (fun e w' => e = .returned (.bool true) ∧ NetAt base b (fs ++ [⟨x, y, t, false⟩]) w' ∧ NSep base b w w') := by
  obtain ⟨A, cap, h⟩ := h
  refine (send_any h x y t (by omega) hb).mono ?_
  rintro e w' ⟨rfl, h1, h2⟩
  rw [if_pos hn] at h1
  exact ⟨by rw [decide_eq_true hn], h1, h2⟩
theorem count_self {base b : Nat} {fs : List Fr} {w : World} (h : NetAt base b fs w) : Calls Try.prog 13 #[.pointer (some ⟨b, 0, none⟩)] w (IsN fs.length w) := by
  obtain ⟨A, cap, h⟩ := h
  exact count_any h
theorem net_new (w : World) : NetAt w.heap.size w.heap.size [] (w.alloc (.cells #[.slice none 0 0] 26)) := ⟨none, 0, heap_alloc_new w _, World.ownsRow_nil _ _ _ _, Nat.le_refl _⟩
def fA : Fr := ⟨0, 1, ⟨#[97]⟩, false⟩
def fB : Fr := ⟨0, 1, ⟨#[98]⟩, false⟩
theorem eq_fA (w : World) : (binOp .eql 35 (.agg #[.int .i64 0, .int .i64 1, .string ⟨#[97]⟩, .bool false]) (.agg #[.int .i64 0, .int .i64 1, .string ⟨#[97]⟩, .bool false])).run Try.prog w = .ok (.bool true) w := by kernel_rfl
theorem build_fA (w : World) : (Instr.build 35 #[(1, .int .i64 1), (2, .string ⟨#[97]⟩)]).run Try.prog w = .ok (.agg #[.int .i64 0, .int .i64 1, .string ⟨#[97]⟩, .bool false]) w := by kernel_rfl
set_option maxHeartbeats 8000000 in
theorem speaks_any (w : World) : Calls Try.prog 5 #[] w (Gn.Asks true w) := by
  obtain ⟨V, hV⟩ : ∃ V, V = w.alloc (.cells #[.slice none 0 0] 26) := ⟨_, rfl⟩
  obtain ⟨b, hb⟩ : ∃ x, x = w.heap.size := ⟨_, rfl⟩
  have h0 := net_new w
  rw [← hV, ← hb] at h0
  have hvs : b ≤ V.heap.size := by rw [hV, hb]; simp
  have hb0 : Below b w V := by rw [hV]; exact (Below.refl _ w).alloc (Nat.le_of_eq hb) _
  have H0 := Lib.hid h0
  have HV := Lib.hid hV
  have HB := Lib.hid hb
  have HVS := Lib.hid hvs
  have HB0 := Lib.hid hb0
  clear hV hb h0 hvs hb0
  go_enter Try.func5, Try.ntmps5
  go_upto_region 2 with fail
  rw [← HV.out, ← HB.out]
  go_wp2_with fail
  refine (send_few H0.out 0 1 ⟨#[97]⟩ (by decide) HVS.out).mono ?_
  rintro e w1 ⟨rfl, h1, s1⟩
  have H1 := Lib.hid h1
  have S1 := Lib.hid s1
  clear h1 s1
  go_wp2_with fail
  refine (send_few H1.out 0 1 ⟨#[98]⟩ (by decide) (Nat.le_trans HVS.out S1.out.size)).mono ?_
  rintro e w2 ⟨rfl, h2, s2⟩
  have H2 := Lib.hid (show NetAt b b [fA, fB] w2 from h2)
  have S2 := Lib.hid (S1.out.trans s2)
  have hz := fr_zero w2
  clear h2 s2
  go_wp2_with fail
  refine (double_any H2.out 0 (by decide) (Nat.le_trans HVS.out S2.out.size)).mono ?_
  rintro e w3 ⟨rfl, h3, s3⟩
  have H3 := Lib.hid (show NetAt b b [fA, fB, fA] w3 from h3)
  have S3 := Lib.hid (S2.out.trans s3)
  rw [show decide (0 < [fA, fB].length ∧ [fA, fB].length < 1024) = true from rfl]
  clear h3 s3 hz
  go_upto_region 6 with fail
  obtain ⟨U, hU⟩ : ∃ x, x = w3.alloc (.cells #[.int .i64 0, .int .i64 0, .string ⟨#[]⟩, .bool false] 35) := ⟨_, rfl⟩
  obtain ⟨q, hq⟩ : ∃ x, x = w3.heap.size := ⟨_, rfl⟩
  rw [← hU, ← hq]
  have hbu : Below w3.heap.size w3 U := by rw [hU]; exact (Below.refl _ _).alloc (Nat.le_refl _) _
  have hqu : U.heap[q]? = some (.cells #[.int .i64 0, .int .i64 0, .string ⟨#[]⟩, .bool false] 35 (0, 0)) := by rw [hU, hq]; exact heap_alloc_new _ _
  have h4 := H3.out.below hbu
  have hnr : ¬ RowB U b q := by
    rintro ⟨n, c, hc⟩
    obtain ⟨A, cap, hx⟩ := H3.out
    have h5 := cell_of_row _ _ 0 _ _ (0, 0) (hx.below hbu).box
    rw [hc] at h5
    injection h5 with h5
    injection h5 with h5 _ _
    have := Gn.own_lt hx.row q (by rw [← h5]; rfl)
    omega
  have hqb : q ≠ b := by have := H3.out.lt.1; omega
  have H4 := Lib.hid h4
  have S4 := Lib.hid (S3.out.trans (NSep.of_below hbu (Nat.le_trans HVS.out S3.out.size)))
  have HNR := Lib.hid hnr
  have HQU := Lib.hid hqu
  have HQB := Lib.hid hqb
  have HQL := Lib.hid (show b ≤ q from by rw [hq]; exact Nat.le_trans HVS.out S3.out.size)
  have HQV := Lib.hid (show V.heap.size ≤ q from by rw [hq]; exact S3.out.size)
  have HBU := Lib.hid hbu.size
  clear hU hq hbu hqu h4 hnr hqb
  go_wp2_with fail
  refine (take_any H4.out (-1) (by decide) (Nat.le_trans HVS.out (Nat.le_trans S3.out.size HBU.out))).mono ?_
  rintro e w5 ⟨rfl, h5, s5, k5⟩
  have hq5 := (k5 q (Gn.heap_lt HQU.out) HQB.out HNR.out).trans HQU.out
  rw [show AGF (atF [fA, fB, fA] (-1)) = .agg #[.int .i64 0, .int .i64 1, .string ⟨#[97]⟩, .bool false] from rfl, show decide (0 < [fA, fB, fA].length) = true from rfl]
  have H5 := Lib.hid (show NetAt b b [fA, fB] w5 from h5)
  have S5 := Lib.hid (S4.out.trans s5)
  have q0 := cell_of_row _ _ 0 _ _ (0, 0) hq5
  have q1 := cell_of_row _ _ 1 _ _ (0, 0) hq5
  have q2 := cell_of_row _ _ 2 _ _ (0, 0) hq5
  have q3 := cell_of_row _ _ 3 _ _ (0, 0) hq5
  have z0 := Gn.frozen_row hq5 0
  have z1 := Gn.frozen_row hq5 1
  have z2 := Gn.frozen_row hq5 2
  have z3 := Gn.frozen_row hq5 3
  have HQ5 := Lib.hid hq5
  have K5 := Lib.hid k5
  clear h5 s5 k5 hq5
  go_upto_region 7 with fail
  obtain ⟨w6, hw6⟩ : ∃ x, x = (((w5.setCell ⟨q, 0, none⟩ (.int .i64 0)).setCell ⟨q, 1, none⟩ (.int .i64 1)).setCell ⟨q, 2, none⟩ (.string ⟨#[97]⟩)).setCell ⟨q, 3, none⟩ (.bool false) := ⟨_, rfl⟩
  rw [← hw6]
  have hx6 := Nt.set4 HQ5.out (.int .i64 0) (.int .i64 1) (.string ⟨#[97]⟩) (.bool false)
  rw [← hw6] at hx6
  have h6 : NetAt b b [fA, fB] w6 := by
    obtain ⟨A, cap, hx⟩ := H5.out
    rw [hw6]
    refine (hx.set4 HQB.out (fun g hg => ?_) _ _ _ _).at_
    intro e
    subst e
    rcases hx.row.2 with ⟨h1, _⟩ | ⟨g', cp, cur, h1, h2, h3, h4, h5, h6, h7⟩
    · rw [h1] at hg; cases hg
    · rw [h1] at hg
      have hg2 : g' = q := by injection hg
      rw [hg2, HQ5.out] at h3
      injection h3 with h3
      injection h3 with h3
      rw [← h3] at h6
      simp at h6 h4
      omega
  have S6 := Lib.hid (show NSep b b V w6 from by rw [hw6]; exact S5.out.set4 HQL.out HQV.out _ _ _ _)
  have H6 := Lib.hid h6
  have x0 := cell_of_row _ _ 0 _ _ (0, 0) hx6
  have x1 := cell_of_row _ _ 1 _ _ (0, 0) hx6
  have x2 := cell_of_row _ _ 2 _ _ (0, 0) hx6
  have x3 := cell_of_row _ _ 3 _ _ (0, 0) hx6
  have hbd := build_fA w6
  have heq := eq_fA w6
  clear hw6 hx6 h6 q0 q1 q2 q3 z0 z1 z2 z3
  go_wp2_with fail
  refine (count_self H6.out).mono ?_
  rintro e w7 ⟨rfl, rfl⟩
  rw [show (([fA, fB].length : Nat) : Int) = 2 from rfl]
  clear x0 x1 x2 x3 hbd heq
  go_wp2_with fail
  go_ret
  exact ⟨rfl, by rw [← HB.out]; exact HB0.out.trans S6.out.below⟩
end Go.Proofs.Ytdkigbaodbkebaa.Nt
