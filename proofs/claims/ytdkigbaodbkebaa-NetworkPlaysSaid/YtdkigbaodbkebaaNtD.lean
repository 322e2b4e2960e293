/-
  Layer 27: Look where there is none, Double.
-/
import Derived.Test.YtdkigbaodbkebaaNtC
namespace Go.Proofs.Ytdkigbaodbkebaa.Nt
open Go.RowKit
set_option maxRecDepth 100000
set_option linter.unusedSimpArgs false
set_option linter.unusedVariables false
theorem look_none (p : Value) (i : Int) (w : World) (hc : ∀ w' : World, Below w.heap.size w w' → Calls Try.prog 13 #[p] w' (IsN 0 w')) :
    Calls Try.prog 12 #[p, .int .i64 i] w (LookT [] i w) := by
  obtain ⟨V, hV⟩ : ∃ V, V = w.alloc (.cells #[.int .i64 0, .int .i64 0, .string ⟨#[]⟩, .bool false] 35) := ⟨_, rfl⟩
  have hbv : Below w.heap.size w V := by rw [hV]; exact (Below.refl _ w).alloc (Nat.le_refl _) _
  obtain ⟨r, hr⟩ : ∃ x, x = w.heap.size := ⟨_, rfl⟩
  have hx : V.heap[r]? = some (.cells #[.int .i64 0, .int .i64 0, .string ⟨#[]⟩, .bool false] 35 (0, 0)) := by rw [hV, hr]; exact heap_alloc_new w _
  have r0 := cell_of_row _ _ 0 _ _ (0, 0) hx
  have r1 := cell_of_row _ _ 1 _ _ (0, 0) hx
  have r2 := cell_of_row _ _ 2 _ _ (0, 0) hx
  have r3 := cell_of_row _ _ 3 _ _ (0, 0) hx
  have q0 := Gn.frozen_row hx 0
  have q1 := Gn.frozen_row hx 1
  have q2 := Gn.frozen_row hx 2
  have q3 := Gn.frozen_row hx 3
  have HP := Lib.hid (place_none p V (hc V hbv) i)
  unfold plV at HP
  have hfz := fr_zero V
  have hnt := not_run false V
  have HV := Lib.hid hV
  have HR := Lib.hid hr
  have HRS := Lib.hid (set4 hx (.int .i64 0) (.int .i64 0) (.string ⟨#[]⟩) (.bool false))
  have HBE := Lib.hid (bel4 hbv (Nat.le_of_eq hr.symm) (.int .i64 0) (.int .i64 0) (.string ⟨#[]⟩) (.bool false))
  clear hx hV hbv hr hc
  go_enter Try.func12, Try.ntmps12
  go_upto_region 1 with fail
  rw [← HV.out, ← HR.out]
  go_wp2_with fail
  refine HP.out.mono ?_
  rintro e w' ⟨rfl, rfl⟩
  go_wp2_with fail
  refine bodyPost_ret (results_ct (P := Try.prog) rfl _ _ r 35 _ (0, 0) _ _ rfl rfl HRS.out Try.underlying35 rfl (by kernel_rfl)) rfl ?_
  exact ⟨rfl, HBE.out⟩
theorem take_none (p : Value) (i : Int) (w : World) (hc : ∀ w' : World, Below w.heap.size w w' → Calls Try.prog 13 #[p] w' (IsN 0 w')) :
    Calls Try.prog 8 #[p, .int .i64 i] w (LookT [] i w) := by
  obtain ⟨V, hV⟩ : ∃ V, V = w.alloc (.cells #[.int .i64 0, .int .i64 0, .string ⟨#[]⟩, .bool false] 35) := ⟨_, rfl⟩
  have hbv : Below w.heap.size w V := by rw [hV]; exact (Below.refl _ w).alloc (Nat.le_refl _) _
  obtain ⟨r, hr⟩ : ∃ x, x = w.heap.size := ⟨_, rfl⟩
  have hx : V.heap[r]? = some (.cells #[.int .i64 0, .int .i64 0, .string ⟨#[]⟩, .bool false] 35 (0, 0)) := by rw [hV, hr]; exact heap_alloc_new w _
  have r0 := cell_of_row _ _ 0 _ _ (0, 0) hx
  have r1 := cell_of_row _ _ 1 _ _ (0, 0) hx
  have r2 := cell_of_row _ _ 2 _ _ (0, 0) hx
  have r3 := cell_of_row _ _ 3 _ _ (0, 0) hx
  have q0 := Gn.frozen_row hx 0
  have q1 := Gn.frozen_row hx 1
  have q2 := Gn.frozen_row hx 2
  have q3 := Gn.frozen_row hx 3
  have HP := Lib.hid (place_none p V (hc V hbv) i)
  unfold plV at HP
  have hfz := fr_zero V
  have hnt := not_run false V
  have HV := Lib.hid hV
  have HR := Lib.hid hr
  have HRS := Lib.hid (set4 hx (.int .i64 0) (.int .i64 0) (.string ⟨#[]⟩) (.bool false))
  have HBE := Lib.hid (bel4 hbv (Nat.le_of_eq hr.symm) (.int .i64 0) (.int .i64 0) (.string ⟨#[]⟩) (.bool false))
  clear hx hV hbv hr hc
  go_enter Try.func8, Try.ntmps8
  go_upto_region 1 with fail
  rw [← HV.out, ← HR.out]
  go_wp2_with fail
  refine HP.out.mono ?_
  rintro e w' ⟨rfl, rfl⟩
  go_wp2_with fail
  refine bodyPost_ret (results_ct (P := Try.prog) rfl _ _ r 35 _ (0, 0) _ _ rfl rfl HRS.out Try.underlying35 rfl (by kernel_rfl)) rfl ?_
  exact ⟨rfl, HBE.out⟩
theorem look_self {base b : Nat} {fs : List Fr} {w : World} (h : NetAt base b fs w) (i : Int) (hn : fs.length ≤ 1024) : Calls Try.prog 12 #[.pointer (some ⟨b, 0, none⟩), .int .i64 i] w (LookT fs i w) := by
  obtain ⟨A, cap, h⟩ := h
  exact look_any h i hn
/-- What Double leaves. -/
def DblT (base b : Nat) (fs : List Fr) (i : Int) (w : World) (e : Ending) (w' : World) : Prop := e = .returned (.bool (decide (0 < fs.length ∧ fs.length < 1024))) ∧ NetAt base b (if 0 < fs.length ∧ fs.length < 1024 then fs ++ [atF fs i] else fs) w' ∧ NSep base b w w'
theorem add_self {base b : Nat} {fs : List Fr} {w : World} (h : NetAt base b fs w) (f : Fr) (hn : fs.length ≤ 1024) (hb : base ≤ w.heap.size) : Calls Try.prog 14 #[.pointer (some ⟨b, 0, none⟩), AGF f] w (AddT base b fs f w) := by
  obtain ⟨A, cap, h⟩ := h
  exact add_any h f hn hb
theorem DblT.none {base b : Nat} {fs : List Fr} {i : Int} {w w' : World} (h : NetAt base b fs w') (hs : NSep base b w w') (hn : fs.length = 0) : DblT base b fs i w (.returned (.bool false)) w' := by
  unfold DblT
  rw [if_neg (by omega), decide_eq_false (by omega)]
  exact ⟨rfl, h, hs⟩
theorem DblT.some {base b : Nat} {fs : List Fr} {i : Int} {w w' : World} (hn : 0 < fs.length) (h : NetAt base b (if fs.length < 1024 then fs ++ [atF fs i] else fs) w') (hs : NSep base b w w') : DblT base b fs i w (.returned (.bool (decide (fs.length < 1024)))) w' := by
  unfold DblT
  by_cases h2 : fs.length < 1024
  · rw [if_pos h2] at h
    rw [if_pos ⟨hn, h2⟩, decide_eq_true h2, decide_eq_true ⟨hn, h2⟩]
    exact ⟨rfl, h, hs⟩
  · rw [if_neg h2] at h
    rw [if_neg (by omega), decide_eq_false h2, decide_eq_false (by omega)]
    exact ⟨rfl, h, hs⟩
set_option maxHeartbeats 8000000 in
theorem double_any {base b : Nat} {fs : List Fr} {w : World} (h : NetAt base b fs w) (i : Int) (hn : fs.length ≤ 1024) (hb : base ≤ w.heap.size) :
    Calls Try.prog 9 #[.pointer (some ⟨b, 0, none⟩), .int .i64 i] w (DblT base b fs i w) := by
  have HL := Lib.hid (look_self h i hn)
  obtain ⟨⟨f0, f1, f2, f3⟩, hf⟩ : ∃ x, x = atF fs i := ⟨_, rfl⟩
  unfold LookT AGF at HL
  rw [← hf] at HL
  obtain ⟨n, hnn⟩ : ∃ n, n = fs.length := ⟨_, rfl⟩
  obtain ⟨ok, hok⟩ : ∃ x, x = decide (0 < n) := ⟨_, rfl⟩
  rw [← hnn, ← hok] at HL
  simp only at HL
  have HH := Lib.hid h
  have HF := Lib.hid hf
  have HNN := Lib.hid hnn
  have HN := Lib.hid hn
  have HB := Lib.hid hb
  have HOK := Lib.hid hok
  clear h hf hnn hn hb hok
  go_enter Try.func9, Try.ntmps9
  go_wp2_with fail
  refine HL.out.mono ?_
  rintro e w2 ⟨rfl, hb2⟩
  have HB2 := Lib.hid hb2
  clear hb2
  obtain ⟨w3, hw3⟩ : ∃ x, x = w2.alloc (.cells #[.int .i64 f0, .int .i64 f1, .string f2, .bool f3] 35) := ⟨_, rfl⟩
  have hb3 : Below w.heap.size w w3 := by rw [hw3]; exact HB2.out.alloc HB2.out.size _
  have HW3 := Lib.hid hw3
  have HB3 := Lib.hid hb3
  clear hw3 hb3
  cases ok
  · go_wp2_with fail
    rw [← HW3.out]
    go_ret
    exact DblT.none (HH.out.below HB3.out) (NSep.of_below HB3.out HB.out) (by have := HOK.out; rw [HNN.out] at this; simpa using this.symm)
  · have HA := Lib.hid (add_self (HH.out.below HB3.out) ⟨f0, f1, f2, f3⟩ HN.out (Nat.le_trans HB.out HB3.out.size))
    unfold AGF at HA
    go_wp2_with fail
    rw [← HW3.out]
    refine HA.out.mono ?_
    rintro e w4 ⟨rfl, h4, h5⟩
    have H4 := Lib.hid h4
    have H5 := Lib.hid h5
    clear h4 h5
    go_wp2_with fail
    go_ret
    exact DblT.some (by have := HOK.out; rw [HNN.out] at this; simpa using this.symm) (by rw [← HF.out]; exact H4.out) ((NSep.of_below HB3.out HB.out).trans H5.out)
theorem double_none (p : Value) (i : Int) (w : World) (hc : ∀ w' : World, Below w.heap.size w w' → Calls Try.prog 13 #[p] w' (IsN 0 w')) :
    Calls Try.prog 9 #[p, .int .i64 i] w (fun e w' => e = .returned (.bool false) ∧ Below w.heap.size w w') := by
  have HL := Lib.hid (look_none p i w hc)
  unfold LookT AGF at HL
  obtain ⟨⟨f0, f1, f2, f3⟩, hf⟩ : ∃ x, x = atF [] i := ⟨_, rfl⟩
  rw [← hf] at HL
  simp only [List.length_nil, Nat.lt_irrefl, decide_false] at HL
  clear hc hf
  go_enter Try.func9, Try.ntmps9
  go_wp2_with fail
  refine HL.out.mono ?_
  rintro e w2 ⟨rfl, hb2⟩
  have HB3 := Lib.hid (hb2.alloc hb2.size (.cells #[.int .i64 f0, .int .i64 f1, .string f2, .bool f3] 35))
  clear hb2
  go_wp2_with fail
  go_ret
  exact ⟨rfl, HB3.out⟩
end Go.Proofs.Ytdkigbaodbkebaa.Nt
