/-
  Layer 18: Get.
-/
import Derived.Test.YtnmhgjoofgmcgaaGreatRlGt
import Derived.Deep.RegionHeld3
namespace Go.Proofs.YtnmhgjoofgmcgaaGreat.Rl
open Go.RowKit
open Fx (StrsAt)
open Oct (rInt rText rTexts rErr rEnd At Sep Gives)
set_option maxRecDepth 100000
set_option linter.unusedSimpArgs false
set_option linter.unusedVariables false
section
variable {W w : World} {rest : Oct.Rest} {ms : List Mem} {cs : List Cls} {raws : List CRaw} {vm vc : Value}
theorem GtA.exit (h : GtA W w rest ms cs raws vm vc) : ((w.setCell ⟨W.heap.size, 0, none⟩ (.slice none 0 0)).setCell ⟨W.heap.size, 1, none⟩ (.slice none 0 0)).heap[W.heap.size]? = some (.cells #[.slice none 0 0, .slice none 0 0] 27 (0, 0)) ∧ Below W.heap.size W ((w.setCell ⟨W.heap.size, 0, none⟩ (.slice none 0 0)).setCell ⟨W.heap.size, 1, none⟩ (.slice none 0 0)) :=
  ⟨Gn.heap_set (Gn.heap_set h.res 0 _) 1 _, (h.bel.setCell (Nat.le_refl _) _).setCell (Nat.le_refl _) _⟩
theorem GtA.full (h : GtA W w rest ms cs raws vm vc) : ((w.setCell ⟨W.heap.size, 0, none⟩ vm).setCell ⟨W.heap.size, 1, none⟩ vc).heap[W.heap.size]? = some (.cells #[vm, vc] 27 (0, 0)) ∧ OpOut W (.ok ⟨ms, cs⟩) (.returned (.tuple #[.agg #[vm, vc], .int .i64 0])) ((w.setCell ⟨W.heap.size, 0, none⟩ vm).setCell ⟨W.heap.size, 1, none⟩ vc) :=
  ⟨Gn.heap_set (Gn.heap_set h.res 0 _) 1 _, _, rfl, h.rl.keep (by simp [World.setCell]) fun q hq _ => ⟨by omega, fun j => Gn.cell_same ((set_box q (by omega)).trans (set_box q (by omega))) j⟩, (h.bel.setCell (Nat.le_refl _) _).setCell (Nat.le_refl _) _⟩
theorem gt_text (h : GtA W w rest ms cs raws vm vc) : Calls Tryz.prog 40 #[.pointer (some ⟨W.heap.size + 1, 0, none⟩)] w fun e w' => e = .returned (.string (mkS (rText rest).1)) ∧ GtA W w' (rText rest).2 ms cs raws vm vc :=
  (Oct.text_in_any _ _ _ h.inn).mono fun e w' ⟨h1, h2, h3⟩ => ⟨h1, h.sep h3 h2⟩
theorem gt_int (h : GtA W w rest ms cs raws vm vc) : Calls Tryz.prog 39 #[.pointer (some ⟨W.heap.size + 1, 0, none⟩)] w fun e w' => e = .returned (.int .i64 (rInt rest).1) ∧ GtA W w' (rInt rest).2 ms cs raws vm vc :=
  (Oct.int_in_any _ _ _ h.inn).mono fun e w' ⟨h1, h2, h3⟩ => ⟨h1, h.sep h3 h2⟩
theorem gt_texts (h : GtA W w rest ms cs raws vm vc) : Calls Tryz.prog 41 #[.pointer (some ⟨W.heap.size + 1, 0, none⟩), .int .i64 256] w fun e w' => ∃ (A : Option Addr) (cap : Nat), e = .returned (.slice A ((rTexts 256 rest).1.map mkS).length cap) ∧ GtA W w' (rTexts 256 rest).2 ms cs raws vm vc ∧ w'.ownsRow (W.heap.size + 3) 9 1 (.slice A ((rTexts 256 rest).1.map mkS).length cap) ((rTexts 256 rest).1.map mkS).length (((rTexts 256 rest).1.map mkS).map Value.string) :=
  (Oct.texts_in_any _ _ _ _ h.inn).mono fun e w' ⟨A, cap, h1, h2, h3, h4⟩ => ⟨A, cap, by rw [h1, List.length_map], h.sep h4 h3, by
    rw [List.length_map, List.map_map]
    exact own_low h2 (by have := Gn.heap_lt h.box; omega)⟩
end
set_option maxHeartbeats 32000000 in
theorem get_any (s : ByteArray) (hs : s.size ≤ 9223372036854775807) (W : World) :
    Calls Tryz.prog 10 #[.string s] W (OpOut W (getR (Oct.bs s))) := by
  obtain ⟨i0, hi0, hz0, hz1, hz2⟩ := info_parts M_info
  obtain ⟨i1, hi1, hy0, hy1, hy2⟩ := info_parts C_info
  obtain ⟨V2, hV2⟩ : ∃ V2, V2 = ((W.alloc (.cells #[.slice none 0 0, .slice none 0 0] 27)).alloc (.cells #[.string s, .int .i64 0] 101)).alloc (.cells #[.slice none 0 0, .slice none 0 0] 27) := ⟨_, rfl⟩
  have hb : Below W.heap.size W V2 := by rw [hV2]; exact (((Below.refl _ W).alloc (Nat.le_refl _) _).alloc (by simp) _).alloc (by simp; omega) _
  have hx0 : V2.heap[W.heap.size]? = some (.cells #[.slice none 0 0, .slice none 0 0] 27 (0, 0)) := by rw [hV2]; exact (heap_alloc_old _ _ (by simp; omega)).trans ((heap_alloc_old _ _ (by simp)).trans (heap_alloc_new W _))
  have hx1 : V2.heap[W.heap.size + 1]? = some (.cells #[.string s, .int .i64 0] 101 (0, 0)) := by
    rw [hV2]; exact (heap_alloc_old _ _ (by simp)).trans (by have := heap_alloc_new (W.alloc (.cells #[.slice none 0 0, .slice none 0 0] 27)) (.cells #[.string s, .int .i64 0] 101); simpa using this)
  have hx2 : V2.heap[W.heap.size + 1 + 1]? = some (.cells #[.slice none 0 0, .slice none 0 0] 27 (0, 0)) := by
    rw [hV2]; have := heap_alloc_new ((W.alloc (.cells #[.slice none 0 0, .slice none 0 0] 27)).alloc (.cells #[.string s, .int .i64 0] 101)) (.cells #[.slice none 0 0, .slice none 0 0] 27); simpa using this
  have HGA := Lib.hid (show GtA W V2 (.ok (Oct.bs s)) [] [] [] (.slice none 0 0) (.slice none 0 0) from ⟨hb, hx0, ⟨s, rfl, hs, hx1⟩, hx2, World.ownsRow_nil _ _ _ _, World.ownsRow_nil _ _ _ _, rfl, fun i h => absurd h (by simp)⟩)
  have HI := Lib.hid (gt_int HGA.out)
  obtain ⟨q0, hq0⟩ : ∃ q, q = rInt (.ok (Oct.bs s)) := ⟨_, rfl⟩
  have hRe : getR (Oct.bs s) = getM9 q0 := by rw [hq0]; rfl
  rw [← hq0] at HI
  obtain ⟨x0, r0⟩ := q0
  dsimp only at HI
  have HV2 := Lib.hid hV2
  have HRE := Lib.hid hRe
  clear hb hx0 hx1 hx2 hV2 hRe hq0 hs
  go_enter Tryz.func10, Tryz.ntmps10
  go_wp2_with fail
  refine (Oct.open_any s _).mono ?_
  rintro e w1 ⟨rfl, rfl⟩
  go_upto_region 3 with fail
  rw [← HV2.out]
  go_wp2_with fail
  refine HI.out.mono ?_
  rintro e w3 ⟨rfl, hga⟩
  have HGA := Lib.hid hga
  clear hga HI
  by_cases hx : x0 < 0 ∨ 256 < x0
  · by_cases hx1 : x0 < 0
    · have HR := Lib.hid (show getR (Oct.bs s) = .error 2 from by rw [HRE.out]; unfold getM9; dsimp only; rw [if_pos hx])
      have HRS := Lib.hid HGA.out.exit.1
      have HBE := Lib.hid HGA.out.exit.2
      have r0' := cell_of_row _ _ 0 _ _ (0, 0) HGA.out.res
      have r1' := cell_of_row _ _ 1 _ _ (0, 0) HGA.out.res
      have g0' := Gn.frozen_row HGA.out.res 0
      have g1' := Gn.frozen_row HGA.out.res 1
      go_wp2_with fail
      refine bodyPost_ret (results_ct (P := Tryz.prog) rfl _ _ W.heap.size 27 _ (0, 0) _ _ rfl rfl HRS.out Tryz.underlying27 rfl (by kernel_rfl)) rfl ?_
      rw [HR.out]
      exact ⟨_, rfl, rl_zero _ _, HBE.out⟩
    · have hx2 : 256 < x0 := by omega
      have HR := Lib.hid (show getR (Oct.bs s) = .error 2 from by rw [HRE.out]; unfold getM9; dsimp only; rw [if_pos hx])
      have HRS := Lib.hid HGA.out.exit.1
      have HBE := Lib.hid HGA.out.exit.2
      have r0' := cell_of_row _ _ 0 _ _ (0, 0) HGA.out.res
      have r1' := cell_of_row _ _ 1 _ _ (0, 0) HGA.out.res
      have g0' := Gn.frozen_row HGA.out.res 0
      have g1' := Gn.frozen_row HGA.out.res 1
      go_wp2_with fail
      refine bodyPost_ret (results_ct (P := Tryz.prog) rfl _ _ W.heap.size 27 _ (0, 0) _ _ rfl rfl HRS.out Tryz.underlying27 rfl (by kernel_rfl)) rfl ?_
      rw [HR.out]
      exact ⟨_, rfl, rl_zero _ _, HBE.out⟩
  · have hx1 : ¬ x0 < 0 := by omega
    have hx2 : ¬ 256 < x0 := by omega
    obtain ⟨N, rfl⟩ := Int.eq_ofNat_of_zero_le (show 0 ≤ x0 by omega)
    have hN : N ≤ 256 := by omega
    have HRE1 := Lib.hid (show getR (Oct.bs s) = getC9 (rMs r0 N) (rInt (rMs r0 N).2) by rw [HRE.out]; unfold getM9; dsimp only; rw [if_neg hx, Int.toNat_natCast])
    have hx1' : ¬ (N : Int) < 0 := by omega
    have hx2' : ¬ (256 : Int) < (N : Int) := by omega
    clear hx hx1 hx2 HRE
    go_wp2_with fail
    go_loopw [22] (fun x wr => ∃ (k : Nat) (vm : Value), k ≤ N ∧ x = .int .i64 k ∧ GtA W wr (rMs r0 k).2 (rMs r0 k).1 [] [] vm (.slice none 0 0)) (fun x _ => N - (intOf x).toNat)
    case atStart => exact ⟨0, _, Nat.zero_le _, rfl, HGA.out⟩
    case round =>
      obtain ⟨k, vm, hk, rfl, hga⟩ := hrel
      have HGA := Lib.hid hga
      clear hga
      by_cases hlt : k < N
      · have hlt2 : (k : Int) < (N : Int) := by omega
        obtain ⟨A1, c1, rfl⟩ := Gn.slice_of HGA.out.rm
        obtain ⟨ml, hml⟩ : ∃ ml, ml = (rMs r0 k).1 := ⟨_, rfl⟩
        obtain ⟨ra, hra⟩ : ∃ ra, ra = (rMs r0 k).2 := ⟨_, rfl⟩
        have hmk : ml.length = k := by rw [hml]; exact rMs_len r0 k
        rw [← hml, ← hra, hmk] at HGA
        obtain ⟨s1, hs1⟩ : ∃ s1, s1 = mkS (rText ra).1 := ⟨_, rfl⟩
        obtain ⟨rb, hrb⟩ : ∃ rb, rb = (rText ra).2 := ⟨_, rfl⟩
        obtain ⟨z2, hz2⟩ : ∃ z, z = (rInt rb).1 := ⟨_, rfl⟩
        obtain ⟨rc, hrc⟩ : ∃ rc, rc = (rInt rb).2 := ⟨_, rfl⟩
        obtain ⟨z3, hz3⟩ : ∃ z, z = (rInt rc).1 := ⟨_, rfl⟩
        obtain ⟨rd, hrd⟩ : ∃ rd, rd = (rInt rc).2 := ⟨_, rfl⟩
        have HNX := Lib.hid (show rMs r0 (k + 1) = (ml ++ [⟨s1, z2, z3⟩], rd) by rw [rMs, stepMs, ← hml, ← hra, ← hrb, ← hrc, ← hrd, ← hs1, ← hz2, ← hz3])
        have HML := Lib.hid hmk
        have HC1 := Lib.hid (fun (w : World) (h : GtA W w ra ml [] [] (.slice A1 k c1) (.slice none 0 0)) => gt_text h)
        have HC2 := Lib.hid (fun (w : World) (h : GtA W w rb ml [] [] (.slice A1 k c1) (.slice none 0 0)) => gt_int h)
        have HC3 := Lib.hid (fun (w : World) (h : GtA W w rc ml [] [] (.slice A1 k c1) (.slice none 0 0)) => gt_int h)
        rw [← hs1, ← hrb] at HC1
        rw [← hz2, ← hrc] at HC2
        rw [← hz3, ← hrd] at HC3
        have HG0 := Lib.hid (HGA.out.under (Gn.below_drew (Below.refl _ _)))
        have hw1 : IntKind.i64.wrap ((k : Int) + 1) = ((k + 1 : Nat) : Int) := IntWalk.i64_in _ (by omega)
        clear hml hra hmk hs1 hrb hz2 hrc hz3 hrd
        go_upto_region 8 with fail
        refine wp_region_noPanic ?_
        refine wp_region_held_drew (S := (fun _ => True)) (by kernel_rfl) ?_ (fun hHeld => ?_)
        · exact trivial
        refine wpAnyH_take (i := 0) (v := ?_) rfl (by kernel_rfl) (by kernel_rfl) (by kernel_rfl) (fun _ _ _ h => h) (Or.inl ⟨by rfl, ?_⟩) (by assumption) ?_
        rotate_left
        · intro w hSw
          try dsimp only at hSw
          go_simp
          try with_reducible rfl
        try simp only [Act.put, List.setIfInBounds_toArray, List.set_cons_zero, List.set_cons_succ]
        refine wpAnyH_take (i := 2) (v := ?_) rfl (by kernel_rfl) (by kernel_rfl) (by kernel_rfl) (fun _ _ _ h => h) (Or.inl ⟨by rfl, ?_⟩) (by assumption) ?_
        rotate_left
        · intro w hSw
          try dsimp only at hSw
          go_simp
          try with_reducible rfl
        try simp only [Act.put, List.setIfInBounds_toArray, List.set_cons_zero, List.set_cons_succ]
        refine wpAnyH_take (i := 4) (v := ?_) rfl (by kernel_rfl) (by kernel_rfl) (by kernel_rfl) (fun _ _ _ h => h) (Or.inl ⟨by rfl, ?_⟩) (by assumption) ?_
        rotate_left
        · intro w hSw
          try dsimp only at hSw
          go_simp
          try with_reducible rfl
        try simp only [Act.put, List.setIfInBounds_toArray, List.set_cons_zero, List.set_cons_succ]
        refine wpAnyH_take (i := 6) (v := ?_) rfl (by kernel_rfl) (by kernel_rfl) (by kernel_rfl) (fun _ _ _ h => h) (Or.inl ⟨by rfl, ?_⟩) (by assumption) ?_
        rotate_left
        · intro w hSw
          try dsimp only at hSw
          go_simp
          try with_reducible rfl
        try simp only [Act.put, List.setIfInBounds_toArray, List.set_cons_zero, List.set_cons_succ]
        refine wpAnyH_ready (rs := [1, 3]) (by kernel_rfl) (by simp) ?_
        refine AllReadyH.cons rfl (fun K hK => ?_) ?_
        · have bx := cell_of_row _ _ 0 _ _ (0, 0) HG0.out.box
          go_simp
          refine hK.out _ _ (trivial) (fun hHeld => ?_)
          clear hK K
          try simp only [Act.put, List.setIfInBounds_toArray, List.set_cons_zero, List.set_cons_succ]
          refine wpAnyH_ready (rs := [3]) (by kernel_rfl) (by simp) ?_
          refine AllReadyH.cons rfl (fun K hK => ?_) AllReadyH.nil
          go_simp
          go_at_call 40
          refine (HC1.out _ HG0.out).mono ?_
          rintro e w4 ⟨rfl, h4⟩
          have HG4 := Lib.hid h4
          clear h4
          refine hK.out _ _ (trivial) (fun hHeld => ?_)
          clear hK K
          try simp only [Act.put, List.setIfInBounds_toArray, List.set_cons_zero, List.set_cons_succ]
          refine wpAnyH_ready (rs := [5]) (by kernel_rfl) (by simp) ?_
          refine AllReadyH.cons rfl (fun K hK => ?_) AllReadyH.nil
          go_simp
          go_at_call 39
          refine (HC2.out _ HG4.out).mono ?_
          rintro e w5 ⟨rfl, h5⟩
          have HG5 := Lib.hid h5
          clear h5
          refine hK.out _ _ (trivial) (fun hHeld => ?_)
          clear hK K
          try simp only [Act.put, List.setIfInBounds_toArray, List.set_cons_zero, List.set_cons_succ]
          refine wpAnyH_ready (rs := [7]) (by kernel_rfl) (by simp) ?_
          refine AllReadyH.cons rfl (fun K hK => ?_) AllReadyH.nil
          go_simp
          go_at_call 39
          refine (HC3.out _ HG5.out).mono ?_
          rintro e w6 ⟨rfl, h6⟩
          have HG6 := Lib.hid h6
          clear h6
          refine hK.out _ _ (trivial) (fun hHeld => ?_)
          clear hK K
          try simp only [Act.put, List.setIfInBounds_toArray, List.set_cons_zero, List.set_cons_succ]
          refine wpAnyH_take (i := 8) (v := ?_) rfl (by kernel_rfl) (by kernel_rfl) (by kernel_rfl) (fun _ _ _ h => h) (Or.inl ⟨by rfl, ?_⟩) (by assumption) ?_
          rotate_left
          · intro w hSw
            try dsimp only at hSw
            go_simp
            try with_reducible rfl
          try simp only [Act.put, List.setIfInBounds_toArray, List.set_cons_zero, List.set_cons_succ]
          refine wpAnyH_ready (rs := [9]) (by kernel_rfl) (by simp) ?_
          refine AllReadyH.cons rfl (fun K hK => ?_) AllReadyH.nil
          have HG7 := Lib.hid (HG6.out.under ((Below.refl _ _).alloc (Nat.le_refl _) (.cells #[.string s1, .int .i64 z2, .int .i64 z3] 45)))
          go_simp
          refine hK.out _ _ (trivial) (fun hHeld => ?_)
          clear hK K
          try simp only [Act.put, List.setIfInBounds_toArray, List.set_cons_zero, List.set_cons_succ]
          refine wpAnyH_ready (rs := [10]) (by kernel_rfl) (by simp) ?_
          refine AllReadyH.cons rfl (fun K hK => ?_) AllReadyH.nil
          refine step_append3 _ (by rfl) (.tmp 25) (.tmp 33) 24 45 (by rfl) i0 _ 32 Tryz.underlying24 hi0 hz0 hz1 hz2 rfl (W.heap.size + 3) (.slice A1 k c1) k (cellsOf encM ml) (by simp [Act.eval]) (by have := HG7.out.rm; rwa [HML.out] at this) ⟨w6.heap.size, 0, none⟩ 1 (by simp [Act.eval]) (encM ⟨s1, z2, z3⟩) rfl (Gn.row_new w6 (encM ⟨s1, z2, z3⟩) 45 w6.heap.size rfl) (encM_one _) (by unfold maxLen; omega) (by omega) (by simp; have := Gn.heap_lt HG6.out.box; omega) ?_
          intro v9 w9 ho9 hg9
          have HG9 := Lib.hid (HG7.out.snocM (m := ⟨s1, z2, z3⟩) (by rw [HML.out]; exact ho9) hg9)
          have HB9 := Lib.hid (HG7.out.grown_blocks HG7.out.rm (Nat.le_refl _) hg9 (by decide)).2.2.2
          obtain ⟨A9, c9, rfl⟩ := Gn.slice_of ho9
          have b0 := cell_of_row _ _ 0 _ _ (0, 0) HB9.out
          have f0 := Gn.frozen_row HB9.out 0
          clear ho9 hg9
          refine hK.out _ _ (trivial) (fun hHeld => ?_)
          clear hK K
          try simp only [Act.put, List.setIfInBounds_toArray, List.set_cons_zero, List.set_cons_succ]
          refine wpAnyH_take (i := 11) (v := ?_) rfl (by kernel_rfl) (by kernel_rfl) (by kernel_rfl) (fun _ _ _ h => h) (Or.inl ⟨by rfl, ?_⟩) (by assumption) ?_
          rotate_left
          · intro w hSw
            try dsimp only at hSw
            go_simp
            try with_reducible rfl
          try simp only [Act.put, List.setIfInBounds_toArray, List.set_cons_zero, List.set_cons_succ]
          refine wpAnyH_ready (rs := [12]) (by kernel_rfl) (by simp) ?_
          refine AllReadyH.cons rfl (fun K hK => ?_) AllReadyH.nil
          go_simp
          refine hK.out _ _ (trivial) (fun hHeld => ?_)
          clear hK K
          try simp only [Act.put, List.setIfInBounds_toArray, List.set_cons_zero, List.set_cons_succ]
          refine wpAnyH_done (by kernel_rfl) ?_ _
          refine NoPanic.normal ?_
          go_wp2_with fail
          go_roundw
          case rel => exact ⟨k + 1, _, by omega, by go_num, by rw [HNX.out]; exact HG9.out⟩
          case measure => simp [intOf]; omega
        refine AllReadyH.cons rfl (fun K hK => ?_) AllReadyH.nil
        · go_simp
          go_at_call 40
          refine (HC1.out _ HG0.out).mono ?_
          rintro e w4 ⟨rfl, h4⟩
          have HG4 := Lib.hid h4
          clear h4
          refine hK.out _ _ (trivial) (fun hHeld => ?_)
          clear hK K
          try simp only [Act.put, List.setIfInBounds_toArray, List.set_cons_zero, List.set_cons_succ]
          refine wpAnyH_ready (rs := [1, 5]) (by kernel_rfl) (by simp) ?_
          refine AllReadyH.cons rfl (fun K hK => ?_) ?_
          · have bx := cell_of_row _ _ 0 _ _ (0, 0) HG4.out.box
            go_simp
            refine hK.out _ _ (trivial) (fun hHeld => ?_)
            clear hK K
            try simp only [Act.put, List.setIfInBounds_toArray, List.set_cons_zero, List.set_cons_succ]
            refine wpAnyH_ready (rs := [5]) (by kernel_rfl) (by simp) ?_
            refine AllReadyH.cons rfl (fun K hK => ?_) AllReadyH.nil
            go_simp
            go_at_call 39
            refine (HC2.out _ HG4.out).mono ?_
            rintro e w5 ⟨rfl, h5⟩
            have HG5 := Lib.hid h5
            clear h5
            refine hK.out _ _ (trivial) (fun hHeld => ?_)
            clear hK K
            try simp only [Act.put, List.setIfInBounds_toArray, List.set_cons_zero, List.set_cons_succ]
            refine wpAnyH_ready (rs := [7]) (by kernel_rfl) (by simp) ?_
            refine AllReadyH.cons rfl (fun K hK => ?_) AllReadyH.nil
            go_simp
            go_at_call 39
            refine (HC3.out _ HG5.out).mono ?_
            rintro e w6 ⟨rfl, h6⟩
            have HG6 := Lib.hid h6
            clear h6
            refine hK.out _ _ (trivial) (fun hHeld => ?_)
            clear hK K
            try simp only [Act.put, List.setIfInBounds_toArray, List.set_cons_zero, List.set_cons_succ]
            refine wpAnyH_take (i := 8) (v := ?_) rfl (by kernel_rfl) (by kernel_rfl) (by kernel_rfl) (fun _ _ _ h => h) (Or.inl ⟨by rfl, ?_⟩) (by assumption) ?_
            rotate_left
            · intro w hSw
              try dsimp only at hSw
              go_simp
              try with_reducible rfl
            try simp only [Act.put, List.setIfInBounds_toArray, List.set_cons_zero, List.set_cons_succ]
            refine wpAnyH_ready (rs := [9]) (by kernel_rfl) (by simp) ?_
            refine AllReadyH.cons rfl (fun K hK => ?_) AllReadyH.nil
            have HG7 := Lib.hid (HG6.out.under ((Below.refl _ _).alloc (Nat.le_refl _) (.cells #[.string s1, .int .i64 z2, .int .i64 z3] 45)))
            go_simp
            refine hK.out _ _ (trivial) (fun hHeld => ?_)
            clear hK K
            try simp only [Act.put, List.setIfInBounds_toArray, List.set_cons_zero, List.set_cons_succ]
            refine wpAnyH_ready (rs := [10]) (by kernel_rfl) (by simp) ?_
            refine AllReadyH.cons rfl (fun K hK => ?_) AllReadyH.nil
            refine step_append3 _ (by rfl) (.tmp 25) (.tmp 33) 24 45 (by rfl) i0 _ 32 Tryz.underlying24 hi0 hz0 hz1 hz2 rfl (W.heap.size + 3) (.slice A1 k c1) k (cellsOf encM ml) (by simp [Act.eval]) (by have := HG7.out.rm; rwa [HML.out] at this) ⟨w6.heap.size, 0, none⟩ 1 (by simp [Act.eval]) (encM ⟨s1, z2, z3⟩) rfl (Gn.row_new w6 (encM ⟨s1, z2, z3⟩) 45 w6.heap.size rfl) (encM_one _) (by unfold maxLen; omega) (by omega) (by simp; have := Gn.heap_lt HG6.out.box; omega) ?_
            intro v9 w9 ho9 hg9
            have HG9 := Lib.hid (HG7.out.snocM (m := ⟨s1, z2, z3⟩) (by rw [HML.out]; exact ho9) hg9)
            have HB9 := Lib.hid (HG7.out.grown_blocks HG7.out.rm (Nat.le_refl _) hg9 (by decide)).2.2.2
            obtain ⟨A9, c9, rfl⟩ := Gn.slice_of ho9
            have b0 := cell_of_row _ _ 0 _ _ (0, 0) HB9.out
            have f0 := Gn.frozen_row HB9.out 0
            clear ho9 hg9
            refine hK.out _ _ (trivial) (fun hHeld => ?_)
            clear hK K
            try simp only [Act.put, List.setIfInBounds_toArray, List.set_cons_zero, List.set_cons_succ]
            refine wpAnyH_take (i := 11) (v := ?_) rfl (by kernel_rfl) (by kernel_rfl) (by kernel_rfl) (fun _ _ _ h => h) (Or.inl ⟨by rfl, ?_⟩) (by assumption) ?_
            rotate_left
            · intro w hSw
              try dsimp only at hSw
              go_simp
              try with_reducible rfl
            try simp only [Act.put, List.setIfInBounds_toArray, List.set_cons_zero, List.set_cons_succ]
            refine wpAnyH_ready (rs := [12]) (by kernel_rfl) (by simp) ?_
            refine AllReadyH.cons rfl (fun K hK => ?_) AllReadyH.nil
            go_simp
            refine hK.out _ _ (trivial) (fun hHeld => ?_)
            clear hK K
            try simp only [Act.put, List.setIfInBounds_toArray, List.set_cons_zero, List.set_cons_succ]
            refine wpAnyH_done (by kernel_rfl) ?_ _
            refine NoPanic.normal ?_
            go_wp2_with fail
            go_roundw
            case rel => exact ⟨k + 1, _, by omega, by go_num, by rw [HNX.out]; exact HG9.out⟩
            case measure => simp [intOf]; omega
          refine AllReadyH.cons rfl (fun K hK => ?_) AllReadyH.nil
          · go_simp
            go_at_call 39
            refine (HC2.out _ HG4.out).mono ?_
            rintro e w5 ⟨rfl, h5⟩
            have HG5 := Lib.hid h5
            clear h5
            refine hK.out _ _ (trivial) (fun hHeld => ?_)
            clear hK K
            try simp only [Act.put, List.setIfInBounds_toArray, List.set_cons_zero, List.set_cons_succ]
            refine wpAnyH_ready (rs := [1, 7]) (by kernel_rfl) (by simp) ?_
            refine AllReadyH.cons rfl (fun K hK => ?_) ?_
            · have bx := cell_of_row _ _ 0 _ _ (0, 0) HG5.out.box
              go_simp
              refine hK.out _ _ (trivial) (fun hHeld => ?_)
              clear hK K
              try simp only [Act.put, List.setIfInBounds_toArray, List.set_cons_zero, List.set_cons_succ]
              refine wpAnyH_ready (rs := [7]) (by kernel_rfl) (by simp) ?_
              refine AllReadyH.cons rfl (fun K hK => ?_) AllReadyH.nil
              go_simp
              go_at_call 39
              refine (HC3.out _ HG5.out).mono ?_
              rintro e w6 ⟨rfl, h6⟩
              have HG6 := Lib.hid h6
              clear h6
              refine hK.out _ _ (trivial) (fun hHeld => ?_)
              clear hK K
              try simp only [Act.put, List.setIfInBounds_toArray, List.set_cons_zero, List.set_cons_succ]
              refine wpAnyH_take (i := 8) (v := ?_) rfl (by kernel_rfl) (by kernel_rfl) (by kernel_rfl) (fun _ _ _ h => h) (Or.inl ⟨by rfl, ?_⟩) (by assumption) ?_
              rotate_left
              · intro w hSw
                try dsimp only at hSw
                go_simp
                try with_reducible rfl
              try simp only [Act.put, List.setIfInBounds_toArray, List.set_cons_zero, List.set_cons_succ]
              refine wpAnyH_ready (rs := [9]) (by kernel_rfl) (by simp) ?_
              refine AllReadyH.cons rfl (fun K hK => ?_) AllReadyH.nil
              have HG7 := Lib.hid (HG6.out.under ((Below.refl _ _).alloc (Nat.le_refl _) (.cells #[.string s1, .int .i64 z2, .int .i64 z3] 45)))
              go_simp
              refine hK.out _ _ (trivial) (fun hHeld => ?_)
              clear hK K
              try simp only [Act.put, List.setIfInBounds_toArray, List.set_cons_zero, List.set_cons_succ]
              refine wpAnyH_ready (rs := [10]) (by kernel_rfl) (by simp) ?_
              refine AllReadyH.cons rfl (fun K hK => ?_) AllReadyH.nil
              refine step_append3 _ (by rfl) (.tmp 25) (.tmp 33) 24 45 (by rfl) i0 _ 32 Tryz.underlying24 hi0 hz0 hz1 hz2 rfl (W.heap.size + 3) (.slice A1 k c1) k (cellsOf encM ml) (by simp [Act.eval]) (by have := HG7.out.rm; rwa [HML.out] at this) ⟨w6.heap.size, 0, none⟩ 1 (by simp [Act.eval]) (encM ⟨s1, z2, z3⟩) rfl (Gn.row_new w6 (encM ⟨s1, z2, z3⟩) 45 w6.heap.size rfl) (encM_one _) (by unfold maxLen; omega) (by omega) (by simp; have := Gn.heap_lt HG6.out.box; omega) ?_
              intro v9 w9 ho9 hg9
              have HG9 := Lib.hid (HG7.out.snocM (m := ⟨s1, z2, z3⟩) (by rw [HML.out]; exact ho9) hg9)
              have HB9 := Lib.hid (HG7.out.grown_blocks HG7.out.rm (Nat.le_refl _) hg9 (by decide)).2.2.2
              obtain ⟨A9, c9, rfl⟩ := Gn.slice_of ho9
              have b0 := cell_of_row _ _ 0 _ _ (0, 0) HB9.out
              have f0 := Gn.frozen_row HB9.out 0
              clear ho9 hg9
              refine hK.out _ _ (trivial) (fun hHeld => ?_)
              clear hK K
              try simp only [Act.put, List.setIfInBounds_toArray, List.set_cons_zero, List.set_cons_succ]
              refine wpAnyH_take (i := 11) (v := ?_) rfl (by kernel_rfl) (by kernel_rfl) (by kernel_rfl) (fun _ _ _ h => h) (Or.inl ⟨by rfl, ?_⟩) (by assumption) ?_
              rotate_left
              · intro w hSw
                try dsimp only at hSw
                go_simp
                try with_reducible rfl
              try simp only [Act.put, List.setIfInBounds_toArray, List.set_cons_zero, List.set_cons_succ]
              refine wpAnyH_ready (rs := [12]) (by kernel_rfl) (by simp) ?_
              refine AllReadyH.cons rfl (fun K hK => ?_) AllReadyH.nil
              go_simp
              refine hK.out _ _ (trivial) (fun hHeld => ?_)
              clear hK K
              try simp only [Act.put, List.setIfInBounds_toArray, List.set_cons_zero, List.set_cons_succ]
              refine wpAnyH_done (by kernel_rfl) ?_ _
              refine NoPanic.normal ?_
              go_wp2_with fail
              go_roundw
              case rel => exact ⟨k + 1, _, by omega, by go_num, by rw [HNX.out]; exact HG9.out⟩
              case measure => simp [intOf]; omega
            refine AllReadyH.cons rfl (fun K hK => ?_) AllReadyH.nil
            · go_simp
              go_at_call 39
              refine (HC3.out _ HG5.out).mono ?_
              rintro e w6 ⟨rfl, h6⟩
              have HG6 := Lib.hid h6
              clear h6
              refine hK.out _ _ (trivial) (fun hHeld => ?_)
              clear hK K
              try simp only [Act.put, List.setIfInBounds_toArray, List.set_cons_zero, List.set_cons_succ]
              refine wpAnyH_take (i := 8) (v := ?_) rfl (by kernel_rfl) (by kernel_rfl) (by kernel_rfl) (fun _ _ _ h => h) (Or.inl ⟨by rfl, ?_⟩) (by assumption) ?_
              rotate_left
              · intro w hSw
                try dsimp only at hSw
                go_simp
                try with_reducible rfl
              try simp only [Act.put, List.setIfInBounds_toArray, List.set_cons_zero, List.set_cons_succ]
              refine wpAnyH_ready (rs := [1, 9]) (by kernel_rfl) (by simp) ?_
              refine AllReadyH.cons rfl (fun K hK => ?_) ?_
              · have bx := cell_of_row _ _ 0 _ _ (0, 0) HG6.out.box
                go_simp
                refine hK.out _ _ (trivial) (fun hHeld => ?_)
                clear hK K
                try simp only [Act.put, List.setIfInBounds_toArray, List.set_cons_zero, List.set_cons_succ]
                refine wpAnyH_ready (rs := [9]) (by kernel_rfl) (by simp) ?_
                refine AllReadyH.cons rfl (fun K hK => ?_) AllReadyH.nil
                have HG7 := Lib.hid (HG6.out.under ((Below.refl _ _).alloc (Nat.le_refl _) (.cells #[.string s1, .int .i64 z2, .int .i64 z3] 45)))
                go_simp
                refine hK.out _ _ (trivial) (fun hHeld => ?_)
                clear hK K
                try simp only [Act.put, List.setIfInBounds_toArray, List.set_cons_zero, List.set_cons_succ]
                refine wpAnyH_ready (rs := [10]) (by kernel_rfl) (by simp) ?_
                refine AllReadyH.cons rfl (fun K hK => ?_) AllReadyH.nil
                refine step_append3 _ (by rfl) (.tmp 25) (.tmp 33) 24 45 (by rfl) i0 _ 32 Tryz.underlying24 hi0 hz0 hz1 hz2 rfl (W.heap.size + 3) (.slice A1 k c1) k (cellsOf encM ml) (by simp [Act.eval]) (by have := HG7.out.rm; rwa [HML.out] at this) ⟨w6.heap.size, 0, none⟩ 1 (by simp [Act.eval]) (encM ⟨s1, z2, z3⟩) rfl (Gn.row_new w6 (encM ⟨s1, z2, z3⟩) 45 w6.heap.size rfl) (encM_one _) (by unfold maxLen; omega) (by omega) (by simp; have := Gn.heap_lt HG6.out.box; omega) ?_
                intro v9 w9 ho9 hg9
                have HG9 := Lib.hid (HG7.out.snocM (m := ⟨s1, z2, z3⟩) (by rw [HML.out]; exact ho9) hg9)
                have HB9 := Lib.hid (HG7.out.grown_blocks HG7.out.rm (Nat.le_refl _) hg9 (by decide)).2.2.2
                obtain ⟨A9, c9, rfl⟩ := Gn.slice_of ho9
                have b0 := cell_of_row _ _ 0 _ _ (0, 0) HB9.out
                have f0 := Gn.frozen_row HB9.out 0
                clear ho9 hg9
                refine hK.out _ _ (trivial) (fun hHeld => ?_)
                clear hK K
                try simp only [Act.put, List.setIfInBounds_toArray, List.set_cons_zero, List.set_cons_succ]
                refine wpAnyH_take (i := 11) (v := ?_) rfl (by kernel_rfl) (by kernel_rfl) (by kernel_rfl) (fun _ _ _ h => h) (Or.inl ⟨by rfl, ?_⟩) (by assumption) ?_
                rotate_left
                · intro w hSw
                  try dsimp only at hSw
                  go_simp
                  try with_reducible rfl
                try simp only [Act.put, List.setIfInBounds_toArray, List.set_cons_zero, List.set_cons_succ]
                refine wpAnyH_ready (rs := [12]) (by kernel_rfl) (by simp) ?_
                refine AllReadyH.cons rfl (fun K hK => ?_) AllReadyH.nil
                go_simp
                refine hK.out _ _ (trivial) (fun hHeld => ?_)
                clear hK K
                try simp only [Act.put, List.setIfInBounds_toArray, List.set_cons_zero, List.set_cons_succ]
                refine wpAnyH_done (by kernel_rfl) ?_ _
                refine NoPanic.normal ?_
                go_wp2_with fail
                go_roundw
                case rel => exact ⟨k + 1, _, by omega, by go_num, by rw [HNX.out]; exact HG9.out⟩
                case measure => simp [intOf]; omega
              refine AllReadyH.cons rfl (fun K hK => ?_) AllReadyH.nil
              · have HG7 := Lib.hid (HG6.out.under ((Below.refl _ _).alloc (Nat.le_refl _) (.cells #[.string s1, .int .i64 z2, .int .i64 z3] 45)))
                go_simp
                refine hK.out _ _ (trivial) (fun hHeld => ?_)
                clear hK K
                try simp only [Act.put, List.setIfInBounds_toArray, List.set_cons_zero, List.set_cons_succ]
                refine wpAnyH_ready (rs := [1]) (by kernel_rfl) (by simp) ?_
                refine AllReadyH.cons rfl (fun K hK => ?_) AllReadyH.nil
                have bx := cell_of_row _ _ 0 _ _ (0, 0) HG7.out.box
                go_simp
                refine hK.out _ _ (trivial) (fun hHeld => ?_)
                clear hK K
                try simp only [Act.put, List.setIfInBounds_toArray, List.set_cons_zero, List.set_cons_succ]
                refine wpAnyH_ready (rs := [10]) (by kernel_rfl) (by simp) ?_
                refine AllReadyH.cons rfl (fun K hK => ?_) AllReadyH.nil
                refine step_append3 _ (by rfl) (.tmp 25) (.tmp 33) 24 45 (by rfl) i0 _ 32 Tryz.underlying24 hi0 hz0 hz1 hz2 rfl (W.heap.size + 3) (.slice A1 k c1) k (cellsOf encM ml) (by simp [Act.eval]) (by have := HG7.out.rm; rwa [HML.out] at this) ⟨w6.heap.size, 0, none⟩ 1 (by simp [Act.eval]) (encM ⟨s1, z2, z3⟩) rfl (Gn.row_new w6 (encM ⟨s1, z2, z3⟩) 45 w6.heap.size rfl) (encM_one _) (by unfold maxLen; omega) (by omega) (by simp; have := Gn.heap_lt HG6.out.box; omega) ?_
                intro v9 w9 ho9 hg9
                have HG9 := Lib.hid (HG7.out.snocM (m := ⟨s1, z2, z3⟩) (by rw [HML.out]; exact ho9) hg9)
                have HB9 := Lib.hid (HG7.out.grown_blocks HG7.out.rm (Nat.le_refl _) hg9 (by decide)).2.2.2
                obtain ⟨A9, c9, rfl⟩ := Gn.slice_of ho9
                have b0 := cell_of_row _ _ 0 _ _ (0, 0) HB9.out
                have f0 := Gn.frozen_row HB9.out 0
                clear ho9 hg9
                refine hK.out _ _ (trivial) (fun hHeld => ?_)
                clear hK K
                try simp only [Act.put, List.setIfInBounds_toArray, List.set_cons_zero, List.set_cons_succ]
                refine wpAnyH_take (i := 11) (v := ?_) rfl (by kernel_rfl) (by kernel_rfl) (by kernel_rfl) (fun _ _ _ h => h) (Or.inl ⟨by rfl, ?_⟩) (by assumption) ?_
                rotate_left
                · intro w hSw
                  try dsimp only at hSw
                  go_simp
                  try with_reducible rfl
                try simp only [Act.put, List.setIfInBounds_toArray, List.set_cons_zero, List.set_cons_succ]
                refine wpAnyH_ready (rs := [12]) (by kernel_rfl) (by simp) ?_
                refine AllReadyH.cons rfl (fun K hK => ?_) AllReadyH.nil
                go_simp
                refine hK.out _ _ (trivial) (fun hHeld => ?_)
                clear hK K
                try simp only [Act.put, List.setIfInBounds_toArray, List.set_cons_zero, List.set_cons_succ]
                refine wpAnyH_done (by kernel_rfl) ?_ _
                refine NoPanic.normal ?_
                go_wp2_with fail
                go_roundw
                case rel => exact ⟨k + 1, _, by omega, by go_num, by rw [HNX.out]; exact HG9.out⟩
                case measure => simp [intOf]; omega
      · have hlt2 : ¬ (k : Int) < (N : Int) := by omega
        have hke : k = N := by omega
        subst hke
        obtain ⟨A1, c1, rfl⟩ := Gn.slice_of HGA.out.rm
        obtain ⟨ml, hml⟩ : ∃ ml, ml = (rMs r0 k).1 := ⟨_, rfl⟩
        obtain ⟨ra, hra⟩ : ∃ ra, ra = (rMs r0 k).2 := ⟨_, rfl⟩
        have hmk : ml.length = k := by rw [hml]; exact rMs_len r0 k
        have hsm := rMs_size r0 k
        rw [← hml] at hsm
        rw [← hml, ← hra, hmk] at HGA
        have HI := Lib.hid (gt_int HGA.out)
        obtain ⟨q1, hq1⟩ : ∃ q, q = rInt ra := ⟨_, rfl⟩
        have HRE2 := Lib.hid (show getR (Oct.bs s) = getC9 (ml, ra) q1 by rw [HRE1.out, hq1, hml, hra])
        rw [← hq1] at HI
        obtain ⟨x1, r1⟩ := q1
        dsimp only at HI
        have HSM := Lib.hid hsm
        have HMN := Lib.hid (show ml.length ≤ 256 by omega)
        obtain ⟨N, hNk⟩ : ∃ N, N = k := ⟨_, rfl⟩
        clear hml hra hmk hq1 hsm HRE1
        go_wp2_with fail
        refine HI.out.mono ?_
        rintro e w7 ⟨rfl, hga⟩
        have HGA := Lib.hid hga
        clear hga HI
        rw [← hNk] at HGA
        clear hNk
        by_cases hx : x1 < 0 ∨ 32 < x1
        · by_cases hx1 : x1 < 0
          · have HR := Lib.hid (show getR (Oct.bs s) = .error 2 from by rw [HRE2.out]; unfold getC9; dsimp only; rw [if_pos hx])
            have HRS := Lib.hid HGA.out.exit.1
            have HBE := Lib.hid HGA.out.exit.2
            have r0' := cell_of_row _ _ 0 _ _ (0, 0) HGA.out.res
            have r1' := cell_of_row _ _ 1 _ _ (0, 0) HGA.out.res
            have g0' := Gn.frozen_row HGA.out.res 0
            have g1' := Gn.frozen_row HGA.out.res 1
            go_wp2_with fail
            refine bodyPost_ret (results_ct (P := Tryz.prog) rfl _ _ W.heap.size 27 _ (0, 0) _ _ rfl rfl HRS.out Tryz.underlying27 rfl (by kernel_rfl)) rfl ?_
            rw [HR.out]
            exact ⟨_, rfl, rl_zero _ _, HBE.out⟩
          · have hx2 : 32 < x1 := by omega
            have HR := Lib.hid (show getR (Oct.bs s) = .error 2 from by rw [HRE2.out]; unfold getC9; dsimp only; rw [if_pos hx])
            have HRS := Lib.hid HGA.out.exit.1
            have HBE := Lib.hid HGA.out.exit.2
            have r0' := cell_of_row _ _ 0 _ _ (0, 0) HGA.out.res
            have r1' := cell_of_row _ _ 1 _ _ (0, 0) HGA.out.res
            have g0' := Gn.frozen_row HGA.out.res 0
            have g1' := Gn.frozen_row HGA.out.res 1
            go_wp2_with fail
            refine bodyPost_ret (results_ct (P := Tryz.prog) rfl _ _ W.heap.size 27 _ (0, 0) _ _ rfl rfl HRS.out Tryz.underlying27 rfl (by kernel_rfl)) rfl ?_
            rw [HR.out]
            exact ⟨_, rfl, rl_zero _ _, HBE.out⟩
        · have hx1 : ¬ x1 < 0 := by omega
          have hx2 : ¬ 32 < x1 := by omega
          obtain ⟨M, rfl⟩ := Int.eq_ofNat_of_zero_le (show 0 ≤ x1 by omega)
          have hM : M ≤ 32 := by omega
          have HRE3 := Lib.hid (show getR (Oct.bs s) = getD9 (ml, ra) (rCs r1 M) by rw [HRE2.out]; unfold getC9; dsimp only; rw [if_neg hx, Int.toNat_natCast])
          have hx1' : ¬ (M : Int) < 0 := by omega
          have hx2' : ¬ (32 : Int) < (M : Int) := by omega
          clear hx hx1 hx2 HRE2
          go_wp2_with fail
          go_loopw [47] (fun x wr => ∃ (k : Nat) (raws : List CRaw) (vc : Value), k ≤ M ∧ x = .int .i64 k ∧ GtA W wr (rCs r1 k).2 ml (rCs r1 k).1 raws (.slice A1 N c1) vc) (fun x _ => M - (intOf x).toNat)
          case atStart => exact ⟨0, [], _, Nat.zero_le _, rfl, HGA.out⟩
          case round =>
            obtain ⟨k, raws, vc, hk, rfl, hga⟩ := hrel
            have HGA := Lib.hid hga
            clear hga
            by_cases hlt : k < M
            · have hlt2 : (k : Int) < (M : Int) := by omega
              obtain ⟨A2, c2, rfl⟩ := Gn.slice_of HGA.out.rc
              obtain ⟨cl, hcl⟩ : ∃ cl, cl = (rCs r1 k).1 := ⟨_, rfl⟩
              obtain ⟨ra, hra⟩ : ∃ ra, ra = (rCs r1 k).2 := ⟨_, rfl⟩
              have hmk : cl.length = k := by rw [hcl]; exact rCs_len r1 k
              rw [← hcl, ← hra, hmk] at HGA
              obtain ⟨s1, hs1⟩ : ∃ s1, s1 = mkS (rText ra).1 := ⟨_, rfl⟩
              obtain ⟨rb, hrb⟩ : ∃ rb, rb = (rText ra).2 := ⟨_, rfl⟩
              obtain ⟨s2, hs2⟩ : ∃ z, z = mkS (rText rb).1 := ⟨_, rfl⟩
              obtain ⟨rc, hrc⟩ : ∃ rc, rc = (rText rb).2 := ⟨_, rfl⟩
              obtain ⟨ss, hss⟩ : ∃ z, z = (rTexts 256 rc).1.map mkS := ⟨_, rfl⟩
              obtain ⟨rd, hrd⟩ : ∃ rd, rd = (rTexts 256 rc).2 := ⟨_, rfl⟩
              have HNX := Lib.hid (show rCs r1 (k + 1) = (cl ++ [⟨s1, s2, ss⟩], rd) by rw [rCs, stepCs, ← hcl, ← hra, ← hrb, ← hrc, ← hrd, ← hs1, ← hs2, ← hss])
              have HML := Lib.hid hmk
              have HC1 := Lib.hid (fun (w : World) (h : GtA W w ra ml cl raws (.slice A1 N c1) (.slice A2 k c2)) => gt_text h)
              have HC2 := Lib.hid (fun (w : World) (h : GtA W w rb ml cl raws (.slice A1 N c1) (.slice A2 k c2)) => gt_text h)
              have HC3 := Lib.hid (fun (w : World) (h : GtA W w rc ml cl raws (.slice A1 N c1) (.slice A2 k c2)) => gt_texts h)
              rw [← hs1, ← hrb] at HC1
              rw [← hs2, ← hrc] at HC2
              rw [← hss, ← hrd] at HC3
              have HG0 := Lib.hid (HGA.out.under (Gn.below_drew (Below.refl _ _)))
              have hw1 : IntKind.i64.wrap ((k : Int) + 1) = ((k + 1 : Nat) : Int) := IntWalk.i64_in _ (by omega)
              clear hcl hra hmk hs1 hrb hs2 hrc hss hrd
              go_upto_region 15 with fail
              refine wp_region_noPanic ?_
              refine wp_region_held_drew (S := (fun _ => True)) (by kernel_rfl) ?_ (fun hHeld => ?_)
              · exact trivial
              refine wpAnyH_take (i := 0) (v := ?_) rfl (by kernel_rfl) (by kernel_rfl) (by kernel_rfl) (fun _ _ _ h => h) (Or.inl ⟨by rfl, ?_⟩) (by assumption) ?_
              rotate_left
              · intro w hSw
                try dsimp only at hSw
                go_simp
                try with_reducible rfl
              try simp only [Act.put, List.setIfInBounds_toArray, List.set_cons_zero, List.set_cons_succ]
              refine wpAnyH_take (i := 2) (v := ?_) rfl (by kernel_rfl) (by kernel_rfl) (by kernel_rfl) (fun _ _ _ h => h) (Or.inl ⟨by rfl, ?_⟩) (by assumption) ?_
              rotate_left
              · intro w hSw
                try dsimp only at hSw
                go_simp
                try with_reducible rfl
              try simp only [Act.put, List.setIfInBounds_toArray, List.set_cons_zero, List.set_cons_succ]
              refine wpAnyH_take (i := 4) (v := ?_) rfl (by kernel_rfl) (by kernel_rfl) (by kernel_rfl) (fun _ _ _ h => h) (Or.inl ⟨by rfl, ?_⟩) (by assumption) ?_
              rotate_left
              · intro w hSw
                try dsimp only at hSw
                go_simp
                try with_reducible rfl
              try simp only [Act.put, List.setIfInBounds_toArray, List.set_cons_zero, List.set_cons_succ]
              refine wpAnyH_take (i := 6) (v := ?_) rfl (by kernel_rfl) (by kernel_rfl) (by kernel_rfl) (fun _ _ _ h => h) (Or.inl ⟨by rfl, ?_⟩) (by assumption) ?_
              rotate_left
              · intro w hSw
                try dsimp only at hSw
                go_simp
                try with_reducible rfl
              try simp only [Act.put, List.setIfInBounds_toArray, List.set_cons_zero, List.set_cons_succ]
              refine wpAnyH_ready (rs := [1, 3]) (by kernel_rfl) (by simp) ?_
              refine AllReadyH.cons rfl (fun K hK => ?_) ?_
              · have bx := cell_of_row _ _ 1 _ _ (0, 0) HG0.out.box
                go_simp
                refine hK.out _ _ (trivial) (fun hHeld => ?_)
                clear hK K
                try simp only [Act.put, List.setIfInBounds_toArray, List.set_cons_zero, List.set_cons_succ]
                refine wpAnyH_ready (rs := [3]) (by kernel_rfl) (by simp) ?_
                refine AllReadyH.cons rfl (fun K hK => ?_) AllReadyH.nil
                go_simp
                go_at_call 40
                refine (HC1.out _ HG0.out).mono ?_
                rintro e w4 ⟨rfl, h4⟩
                have HG4 := Lib.hid h4
                clear h4
                refine hK.out _ _ (trivial) (fun hHeld => ?_)
                clear hK K
                try simp only [Act.put, List.setIfInBounds_toArray, List.set_cons_zero, List.set_cons_succ]
                refine wpAnyH_ready (rs := [5]) (by kernel_rfl) (by simp) ?_
                refine AllReadyH.cons rfl (fun K hK => ?_) AllReadyH.nil
                go_simp
                go_at_call 40
                refine (HC2.out _ HG4.out).mono ?_
                rintro e w5 ⟨rfl, h5⟩
                have HG5 := Lib.hid h5
                clear h5
                refine hK.out _ _ (trivial) (fun hHeld => ?_)
                clear hK K
                try simp only [Act.put, List.setIfInBounds_toArray, List.set_cons_zero, List.set_cons_succ]
                refine wpAnyH_ready (rs := [7]) (by kernel_rfl) (by simp) ?_
                refine AllReadyH.cons rfl (fun K hK => ?_) AllReadyH.nil
                go_simp
                go_at_call 41
                refine (HC3.out _ HG5.out).mono ?_
                rintro e w6 ⟨A6, c6, rfl, h6, o6⟩
                have HG6 := Lib.hid h6
                have HO6 := Lib.hid o6
                clear h6 o6
                refine hK.out _ _ (trivial) (fun hHeld => ?_)
                clear hK K
                try simp only [Act.put, List.setIfInBounds_toArray, List.set_cons_zero, List.set_cons_succ]
                refine wpAnyH_take (i := 8) (v := ?_) rfl (by kernel_rfl) (by kernel_rfl) (by kernel_rfl) (fun _ _ _ h => h) (Or.inl ⟨by rfl, ?_⟩) (by assumption) ?_
                rotate_left
                · intro w hSw
                  try dsimp only at hSw
                  go_simp
                  try with_reducible rfl
                try simp only [Act.put, List.setIfInBounds_toArray, List.set_cons_zero, List.set_cons_succ]
                refine wpAnyH_ready (rs := [9]) (by kernel_rfl) (by simp) ?_
                refine AllReadyH.cons rfl (fun K hK => ?_) AllReadyH.nil
                have HG7 := Lib.hid (HG6.out.under ((Below.refl _ _).alloc (Nat.le_refl _) (.cells #[.string s1, .string s2, .slice A6 ss.length c6] 53)))
                have HO7 := Lib.hid (HO6.out.alloc (.cells #[.string s1, .string s2, .slice A6 ss.length c6] 53))
                go_simp
                refine hK.out _ _ (trivial) (fun hHeld => ?_)
                clear hK K
                try simp only [Act.put, List.setIfInBounds_toArray, List.set_cons_zero, List.set_cons_succ]
                refine wpAnyH_ready (rs := [10]) (by kernel_rfl) (by simp) ?_
                refine AllReadyH.cons rfl (fun K hK => ?_) AllReadyH.nil
                refine step_append3 _ (by rfl) (.tmp 50) (.tmp 58) 25 53 (by rfl) i1 _ 56 Tryz.underlying25 hi1 hy0 hy1 hy2 rfl (W.heap.size + 3) (.slice A2 k c2) k (cellsOf encC raws) (by simp [Act.eval]) (by have := HG7.out.rc; rwa [HML.out] at this) ⟨w6.heap.size, 0, none⟩ 1 (by simp [Act.eval]) (encC ⟨s1, s2, .slice A6 ss.length c6⟩) rfl (Gn.row_new w6 (encC ⟨s1, s2, .slice A6 ss.length c6⟩) 53 w6.heap.size rfl) (by intro u hu; simp [encC] at hu; rcases hu with rfl | rfl | rfl <;> rfl) (by unfold maxLen; omega) (by omega) (by simp; have := Gn.heap_lt HG6.out.box; omega) ?_
                intro v9 w9 ho9 hg9
                have HG9 := Lib.hid (HG7.out.snocC (c := ⟨s1, s2, .slice A6 ss.length c6⟩) (d := ⟨s1, s2, ss⟩) (by rw [HML.out]; exact ho9) hg9 ⟨rfl, rfl, HO7.out⟩)
                have HB9 := Lib.hid (HG7.out.grown_blocks HG7.out.rc (Nat.le_refl _) hg9 (by decide)).2.2.2
                obtain ⟨A9, c9, rfl⟩ := Gn.slice_of ho9
                have b0 := cell_of_row _ _ 1 _ _ (0, 0) HB9.out
                have f0 := Gn.frozen_row HB9.out 1
                clear ho9 hg9
                refine hK.out _ _ (trivial) (fun hHeld => ?_)
                clear hK K
                try simp only [Act.put, List.setIfInBounds_toArray, List.set_cons_zero, List.set_cons_succ]
                refine wpAnyH_take (i := 11) (v := ?_) rfl (by kernel_rfl) (by kernel_rfl) (by kernel_rfl) (fun _ _ _ h => h) (Or.inl ⟨by rfl, ?_⟩) (by assumption) ?_
                rotate_left
                · intro w hSw
                  try dsimp only at hSw
                  go_simp
                  try with_reducible rfl
                try simp only [Act.put, List.setIfInBounds_toArray, List.set_cons_zero, List.set_cons_succ]
                refine wpAnyH_ready (rs := [12]) (by kernel_rfl) (by simp) ?_
                refine AllReadyH.cons rfl (fun K hK => ?_) AllReadyH.nil
                go_simp
                refine hK.out _ _ (trivial) (fun hHeld => ?_)
                clear hK K
                try simp only [Act.put, List.setIfInBounds_toArray, List.set_cons_zero, List.set_cons_succ]
                refine wpAnyH_done (by kernel_rfl) ?_ _
                refine NoPanic.normal ?_
                go_wp2_with fail
                go_roundw
                case rel => exact ⟨k + 1, _, _, by omega, by go_num, by rw [HNX.out]; exact HG9.out⟩
                case measure => simp [intOf]; omega
              refine AllReadyH.cons rfl (fun K hK => ?_) AllReadyH.nil
              · go_simp
                go_at_call 40
                refine (HC1.out _ HG0.out).mono ?_
                rintro e w4 ⟨rfl, h4⟩
                have HG4 := Lib.hid h4
                clear h4
                refine hK.out _ _ (trivial) (fun hHeld => ?_)
                clear hK K
                try simp only [Act.put, List.setIfInBounds_toArray, List.set_cons_zero, List.set_cons_succ]
                refine wpAnyH_ready (rs := [1, 5]) (by kernel_rfl) (by simp) ?_
                refine AllReadyH.cons rfl (fun K hK => ?_) ?_
                · have bx := cell_of_row _ _ 1 _ _ (0, 0) HG4.out.box
                  go_simp
                  refine hK.out _ _ (trivial) (fun hHeld => ?_)
                  clear hK K
                  try simp only [Act.put, List.setIfInBounds_toArray, List.set_cons_zero, List.set_cons_succ]
                  refine wpAnyH_ready (rs := [5]) (by kernel_rfl) (by simp) ?_
                  refine AllReadyH.cons rfl (fun K hK => ?_) AllReadyH.nil
                  go_simp
                  go_at_call 40
                  refine (HC2.out _ HG4.out).mono ?_
                  rintro e w5 ⟨rfl, h5⟩
                  have HG5 := Lib.hid h5
                  clear h5
                  refine hK.out _ _ (trivial) (fun hHeld => ?_)
                  clear hK K
                  try simp only [Act.put, List.setIfInBounds_toArray, List.set_cons_zero, List.set_cons_succ]
                  refine wpAnyH_ready (rs := [7]) (by kernel_rfl) (by simp) ?_
                  refine AllReadyH.cons rfl (fun K hK => ?_) AllReadyH.nil
                  go_simp
                  go_at_call 41
                  refine (HC3.out _ HG5.out).mono ?_
                  rintro e w6 ⟨A6, c6, rfl, h6, o6⟩
                  have HG6 := Lib.hid h6
                  have HO6 := Lib.hid o6
                  clear h6 o6
                  refine hK.out _ _ (trivial) (fun hHeld => ?_)
                  clear hK K
                  try simp only [Act.put, List.setIfInBounds_toArray, List.set_cons_zero, List.set_cons_succ]
                  refine wpAnyH_take (i := 8) (v := ?_) rfl (by kernel_rfl) (by kernel_rfl) (by kernel_rfl) (fun _ _ _ h => h) (Or.inl ⟨by rfl, ?_⟩) (by assumption) ?_
                  rotate_left
                  · intro w hSw
                    try dsimp only at hSw
                    go_simp
                    try with_reducible rfl
                  try simp only [Act.put, List.setIfInBounds_toArray, List.set_cons_zero, List.set_cons_succ]
                  refine wpAnyH_ready (rs := [9]) (by kernel_rfl) (by simp) ?_
                  refine AllReadyH.cons rfl (fun K hK => ?_) AllReadyH.nil
                  have HG7 := Lib.hid (HG6.out.under ((Below.refl _ _).alloc (Nat.le_refl _) (.cells #[.string s1, .string s2, .slice A6 ss.length c6] 53)))
                  have HO7 := Lib.hid (HO6.out.alloc (.cells #[.string s1, .string s2, .slice A6 ss.length c6] 53))
                  go_simp
                  refine hK.out _ _ (trivial) (fun hHeld => ?_)
                  clear hK K
                  try simp only [Act.put, List.setIfInBounds_toArray, List.set_cons_zero, List.set_cons_succ]
                  refine wpAnyH_ready (rs := [10]) (by kernel_rfl) (by simp) ?_
                  refine AllReadyH.cons rfl (fun K hK => ?_) AllReadyH.nil
                  refine step_append3 _ (by rfl) (.tmp 50) (.tmp 58) 25 53 (by rfl) i1 _ 56 Tryz.underlying25 hi1 hy0 hy1 hy2 rfl (W.heap.size + 3) (.slice A2 k c2) k (cellsOf encC raws) (by simp [Act.eval]) (by have := HG7.out.rc; rwa [HML.out] at this) ⟨w6.heap.size, 0, none⟩ 1 (by simp [Act.eval]) (encC ⟨s1, s2, .slice A6 ss.length c6⟩) rfl (Gn.row_new w6 (encC ⟨s1, s2, .slice A6 ss.length c6⟩) 53 w6.heap.size rfl) (by intro u hu; simp [encC] at hu; rcases hu with rfl | rfl | rfl <;> rfl) (by unfold maxLen; omega) (by omega) (by simp; have := Gn.heap_lt HG6.out.box; omega) ?_
                  intro v9 w9 ho9 hg9
                  have HG9 := Lib.hid (HG7.out.snocC (c := ⟨s1, s2, .slice A6 ss.length c6⟩) (d := ⟨s1, s2, ss⟩) (by rw [HML.out]; exact ho9) hg9 ⟨rfl, rfl, HO7.out⟩)
                  have HB9 := Lib.hid (HG7.out.grown_blocks HG7.out.rc (Nat.le_refl _) hg9 (by decide)).2.2.2
                  obtain ⟨A9, c9, rfl⟩ := Gn.slice_of ho9
                  have b0 := cell_of_row _ _ 1 _ _ (0, 0) HB9.out
                  have f0 := Gn.frozen_row HB9.out 1
                  clear ho9 hg9
                  refine hK.out _ _ (trivial) (fun hHeld => ?_)
                  clear hK K
                  try simp only [Act.put, List.setIfInBounds_toArray, List.set_cons_zero, List.set_cons_succ]
                  refine wpAnyH_take (i := 11) (v := ?_) rfl (by kernel_rfl) (by kernel_rfl) (by kernel_rfl) (fun _ _ _ h => h) (Or.inl ⟨by rfl, ?_⟩) (by assumption) ?_
                  rotate_left
                  · intro w hSw
                    try dsimp only at hSw
                    go_simp
                    try with_reducible rfl
                  try simp only [Act.put, List.setIfInBounds_toArray, List.set_cons_zero, List.set_cons_succ]
                  refine wpAnyH_ready (rs := [12]) (by kernel_rfl) (by simp) ?_
                  refine AllReadyH.cons rfl (fun K hK => ?_) AllReadyH.nil
                  go_simp
                  refine hK.out _ _ (trivial) (fun hHeld => ?_)
                  clear hK K
                  try simp only [Act.put, List.setIfInBounds_toArray, List.set_cons_zero, List.set_cons_succ]
                  refine wpAnyH_done (by kernel_rfl) ?_ _
                  refine NoPanic.normal ?_
                  go_wp2_with fail
                  go_roundw
                  case rel => exact ⟨k + 1, _, _, by omega, by go_num, by rw [HNX.out]; exact HG9.out⟩
                  case measure => simp [intOf]; omega
                refine AllReadyH.cons rfl (fun K hK => ?_) AllReadyH.nil
                · go_simp
                  go_at_call 40
                  refine (HC2.out _ HG4.out).mono ?_
                  rintro e w5 ⟨rfl, h5⟩
                  have HG5 := Lib.hid h5
                  clear h5
                  refine hK.out _ _ (trivial) (fun hHeld => ?_)
                  clear hK K
                  try simp only [Act.put, List.setIfInBounds_toArray, List.set_cons_zero, List.set_cons_succ]
                  refine wpAnyH_ready (rs := [1, 7]) (by kernel_rfl) (by simp) ?_
                  refine AllReadyH.cons rfl (fun K hK => ?_) ?_
                  · have bx := cell_of_row _ _ 1 _ _ (0, 0) HG5.out.box
                    go_simp
                    refine hK.out _ _ (trivial) (fun hHeld => ?_)
                    clear hK K
                    try simp only [Act.put, List.setIfInBounds_toArray, List.set_cons_zero, List.set_cons_succ]
                    refine wpAnyH_ready (rs := [7]) (by kernel_rfl) (by simp) ?_
                    refine AllReadyH.cons rfl (fun K hK => ?_) AllReadyH.nil
                    go_simp
                    go_at_call 41
                    refine (HC3.out _ HG5.out).mono ?_
                    rintro e w6 ⟨A6, c6, rfl, h6, o6⟩
                    have HG6 := Lib.hid h6
                    have HO6 := Lib.hid o6
                    clear h6 o6
                    refine hK.out _ _ (trivial) (fun hHeld => ?_)
                    clear hK K
                    try simp only [Act.put, List.setIfInBounds_toArray, List.set_cons_zero, List.set_cons_succ]
                    refine wpAnyH_take (i := 8) (v := ?_) rfl (by kernel_rfl) (by kernel_rfl) (by kernel_rfl) (fun _ _ _ h => h) (Or.inl ⟨by rfl, ?_⟩) (by assumption) ?_
                    rotate_left
                    · intro w hSw
                      try dsimp only at hSw
                      go_simp
                      try with_reducible rfl
                    try simp only [Act.put, List.setIfInBounds_toArray, List.set_cons_zero, List.set_cons_succ]
                    refine wpAnyH_ready (rs := [9]) (by kernel_rfl) (by simp) ?_
                    refine AllReadyH.cons rfl (fun K hK => ?_) AllReadyH.nil
                    have HG7 := Lib.hid (HG6.out.under ((Below.refl _ _).alloc (Nat.le_refl _) (.cells #[.string s1, .string s2, .slice A6 ss.length c6] 53)))
                    have HO7 := Lib.hid (HO6.out.alloc (.cells #[.string s1, .string s2, .slice A6 ss.length c6] 53))
                    go_simp
                    refine hK.out _ _ (trivial) (fun hHeld => ?_)
                    clear hK K
                    try simp only [Act.put, List.setIfInBounds_toArray, List.set_cons_zero, List.set_cons_succ]
                    refine wpAnyH_ready (rs := [10]) (by kernel_rfl) (by simp) ?_
                    refine AllReadyH.cons rfl (fun K hK => ?_) AllReadyH.nil
                    refine step_append3 _ (by rfl) (.tmp 50) (.tmp 58) 25 53 (by rfl) i1 _ 56 Tryz.underlying25 hi1 hy0 hy1 hy2 rfl (W.heap.size + 3) (.slice A2 k c2) k (cellsOf encC raws) (by simp [Act.eval]) (by have := HG7.out.rc; rwa [HML.out] at this) ⟨w6.heap.size, 0, none⟩ 1 (by simp [Act.eval]) (encC ⟨s1, s2, .slice A6 ss.length c6⟩) rfl (Gn.row_new w6 (encC ⟨s1, s2, .slice A6 ss.length c6⟩) 53 w6.heap.size rfl) (by intro u hu; simp [encC] at hu; rcases hu with rfl | rfl | rfl <;> rfl) (by unfold maxLen; omega) (by omega) (by simp; have := Gn.heap_lt HG6.out.box; omega) ?_
                    intro v9 w9 ho9 hg9
                    have HG9 := Lib.hid (HG7.out.snocC (c := ⟨s1, s2, .slice A6 ss.length c6⟩) (d := ⟨s1, s2, ss⟩) (by rw [HML.out]; exact ho9) hg9 ⟨rfl, rfl, HO7.out⟩)
                    have HB9 := Lib.hid (HG7.out.grown_blocks HG7.out.rc (Nat.le_refl _) hg9 (by decide)).2.2.2
                    obtain ⟨A9, c9, rfl⟩ := Gn.slice_of ho9
                    have b0 := cell_of_row _ _ 1 _ _ (0, 0) HB9.out
                    have f0 := Gn.frozen_row HB9.out 1
                    clear ho9 hg9
                    refine hK.out _ _ (trivial) (fun hHeld => ?_)
                    clear hK K
                    try simp only [Act.put, List.setIfInBounds_toArray, List.set_cons_zero, List.set_cons_succ]
                    refine wpAnyH_take (i := 11) (v := ?_) rfl (by kernel_rfl) (by kernel_rfl) (by kernel_rfl) (fun _ _ _ h => h) (Or.inl ⟨by rfl, ?_⟩) (by assumption) ?_
                    rotate_left
                    · intro w hSw
                      try dsimp only at hSw
                      go_simp
                      try with_reducible rfl
                    try simp only [Act.put, List.setIfInBounds_toArray, List.set_cons_zero, List.set_cons_succ]
                    refine wpAnyH_ready (rs := [12]) (by kernel_rfl) (by simp) ?_
                    refine AllReadyH.cons rfl (fun K hK => ?_) AllReadyH.nil
                    go_simp
                    refine hK.out _ _ (trivial) (fun hHeld => ?_)
                    clear hK K
                    try simp only [Act.put, List.setIfInBounds_toArray, List.set_cons_zero, List.set_cons_succ]
                    refine wpAnyH_done (by kernel_rfl) ?_ _
                    refine NoPanic.normal ?_
                    go_wp2_with fail
                    go_roundw
                    case rel => exact ⟨k + 1, _, _, by omega, by go_num, by rw [HNX.out]; exact HG9.out⟩
                    case measure => simp [intOf]; omega
                  refine AllReadyH.cons rfl (fun K hK => ?_) AllReadyH.nil
                  · go_simp
                    go_at_call 41
                    refine (HC3.out _ HG5.out).mono ?_
                    rintro e w6 ⟨A6, c6, rfl, h6, o6⟩
                    have HG6 := Lib.hid h6
                    have HO6 := Lib.hid o6
                    clear h6 o6
                    refine hK.out _ _ (trivial) (fun hHeld => ?_)
                    clear hK K
                    try simp only [Act.put, List.setIfInBounds_toArray, List.set_cons_zero, List.set_cons_succ]
                    refine wpAnyH_take (i := 8) (v := ?_) rfl (by kernel_rfl) (by kernel_rfl) (by kernel_rfl) (fun _ _ _ h => h) (Or.inl ⟨by rfl, ?_⟩) (by assumption) ?_
                    rotate_left
                    · intro w hSw
                      try dsimp only at hSw
                      go_simp
                      try with_reducible rfl
                    try simp only [Act.put, List.setIfInBounds_toArray, List.set_cons_zero, List.set_cons_succ]
                    refine wpAnyH_ready (rs := [1, 9]) (by kernel_rfl) (by simp) ?_
                    refine AllReadyH.cons rfl (fun K hK => ?_) ?_
                    · have bx := cell_of_row _ _ 1 _ _ (0, 0) HG6.out.box
                      go_simp
                      refine hK.out _ _ (trivial) (fun hHeld => ?_)
                      clear hK K
                      try simp only [Act.put, List.setIfInBounds_toArray, List.set_cons_zero, List.set_cons_succ]
                      refine wpAnyH_ready (rs := [9]) (by kernel_rfl) (by simp) ?_
                      refine AllReadyH.cons rfl (fun K hK => ?_) AllReadyH.nil
                      have HG7 := Lib.hid (HG6.out.under ((Below.refl _ _).alloc (Nat.le_refl _) (.cells #[.string s1, .string s2, .slice A6 ss.length c6] 53)))
                      have HO7 := Lib.hid (HO6.out.alloc (.cells #[.string s1, .string s2, .slice A6 ss.length c6] 53))
                      go_simp
                      refine hK.out _ _ (trivial) (fun hHeld => ?_)
                      clear hK K
                      try simp only [Act.put, List.setIfInBounds_toArray, List.set_cons_zero, List.set_cons_succ]
                      refine wpAnyH_ready (rs := [10]) (by kernel_rfl) (by simp) ?_
                      refine AllReadyH.cons rfl (fun K hK => ?_) AllReadyH.nil
                      refine step_append3 _ (by rfl) (.tmp 50) (.tmp 58) 25 53 (by rfl) i1 _ 56 Tryz.underlying25 hi1 hy0 hy1 hy2 rfl (W.heap.size + 3) (.slice A2 k c2) k (cellsOf encC raws) (by simp [Act.eval]) (by have := HG7.out.rc; rwa [HML.out] at this) ⟨w6.heap.size, 0, none⟩ 1 (by simp [Act.eval]) (encC ⟨s1, s2, .slice A6 ss.length c6⟩) rfl (Gn.row_new w6 (encC ⟨s1, s2, .slice A6 ss.length c6⟩) 53 w6.heap.size rfl) (by intro u hu; simp [encC] at hu; rcases hu with rfl | rfl | rfl <;> rfl) (by unfold maxLen; omega) (by omega) (by simp; have := Gn.heap_lt HG6.out.box; omega) ?_
                      intro v9 w9 ho9 hg9
                      have HG9 := Lib.hid (HG7.out.snocC (c := ⟨s1, s2, .slice A6 ss.length c6⟩) (d := ⟨s1, s2, ss⟩) (by rw [HML.out]; exact ho9) hg9 ⟨rfl, rfl, HO7.out⟩)
                      have HB9 := Lib.hid (HG7.out.grown_blocks HG7.out.rc (Nat.le_refl _) hg9 (by decide)).2.2.2
                      obtain ⟨A9, c9, rfl⟩ := Gn.slice_of ho9
                      have b0 := cell_of_row _ _ 1 _ _ (0, 0) HB9.out
                      have f0 := Gn.frozen_row HB9.out 1
                      clear ho9 hg9
                      refine hK.out _ _ (trivial) (fun hHeld => ?_)
                      clear hK K
                      try simp only [Act.put, List.setIfInBounds_toArray, List.set_cons_zero, List.set_cons_succ]
                      refine wpAnyH_take (i := 11) (v := ?_) rfl (by kernel_rfl) (by kernel_rfl) (by kernel_rfl) (fun _ _ _ h => h) (Or.inl ⟨by rfl, ?_⟩) (by assumption) ?_
                      rotate_left
                      · intro w hSw
                        try dsimp only at hSw
                        go_simp
                        try with_reducible rfl
                      try simp only [Act.put, List.setIfInBounds_toArray, List.set_cons_zero, List.set_cons_succ]
                      refine wpAnyH_ready (rs := [12]) (by kernel_rfl) (by simp) ?_
                      refine AllReadyH.cons rfl (fun K hK => ?_) AllReadyH.nil
                      go_simp
                      refine hK.out _ _ (trivial) (fun hHeld => ?_)
                      clear hK K
                      try simp only [Act.put, List.setIfInBounds_toArray, List.set_cons_zero, List.set_cons_succ]
                      refine wpAnyH_done (by kernel_rfl) ?_ _
                      refine NoPanic.normal ?_
                      go_wp2_with fail
                      go_roundw
                      case rel => exact ⟨k + 1, _, _, by omega, by go_num, by rw [HNX.out]; exact HG9.out⟩
                      case measure => simp [intOf]; omega
                    refine AllReadyH.cons rfl (fun K hK => ?_) AllReadyH.nil
                    · have HG7 := Lib.hid (HG6.out.under ((Below.refl _ _).alloc (Nat.le_refl _) (.cells #[.string s1, .string s2, .slice A6 ss.length c6] 53)))
                      have HO7 := Lib.hid (HO6.out.alloc (.cells #[.string s1, .string s2, .slice A6 ss.length c6] 53))
                      go_simp
                      refine hK.out _ _ (trivial) (fun hHeld => ?_)
                      clear hK K
                      try simp only [Act.put, List.setIfInBounds_toArray, List.set_cons_zero, List.set_cons_succ]
                      refine wpAnyH_ready (rs := [1]) (by kernel_rfl) (by simp) ?_
                      refine AllReadyH.cons rfl (fun K hK => ?_) AllReadyH.nil
                      have bx := cell_of_row _ _ 1 _ _ (0, 0) HG7.out.box
                      go_simp
                      refine hK.out _ _ (trivial) (fun hHeld => ?_)
                      clear hK K
                      try simp only [Act.put, List.setIfInBounds_toArray, List.set_cons_zero, List.set_cons_succ]
                      refine wpAnyH_ready (rs := [10]) (by kernel_rfl) (by simp) ?_
                      refine AllReadyH.cons rfl (fun K hK => ?_) AllReadyH.nil
                      refine step_append3 _ (by rfl) (.tmp 50) (.tmp 58) 25 53 (by rfl) i1 _ 56 Tryz.underlying25 hi1 hy0 hy1 hy2 rfl (W.heap.size + 3) (.slice A2 k c2) k (cellsOf encC raws) (by simp [Act.eval]) (by have := HG7.out.rc; rwa [HML.out] at this) ⟨w6.heap.size, 0, none⟩ 1 (by simp [Act.eval]) (encC ⟨s1, s2, .slice A6 ss.length c6⟩) rfl (Gn.row_new w6 (encC ⟨s1, s2, .slice A6 ss.length c6⟩) 53 w6.heap.size rfl) (by intro u hu; simp [encC] at hu; rcases hu with rfl | rfl | rfl <;> rfl) (by unfold maxLen; omega) (by omega) (by simp; have := Gn.heap_lt HG6.out.box; omega) ?_
                      intro v9 w9 ho9 hg9
                      have HG9 := Lib.hid (HG7.out.snocC (c := ⟨s1, s2, .slice A6 ss.length c6⟩) (d := ⟨s1, s2, ss⟩) (by rw [HML.out]; exact ho9) hg9 ⟨rfl, rfl, HO7.out⟩)
                      have HB9 := Lib.hid (HG7.out.grown_blocks HG7.out.rc (Nat.le_refl _) hg9 (by decide)).2.2.2
                      obtain ⟨A9, c9, rfl⟩ := Gn.slice_of ho9
                      have b0 := cell_of_row _ _ 1 _ _ (0, 0) HB9.out
                      have f0 := Gn.frozen_row HB9.out 1
                      clear ho9 hg9
                      refine hK.out _ _ (trivial) (fun hHeld => ?_)
                      clear hK K
                      try simp only [Act.put, List.setIfInBounds_toArray, List.set_cons_zero, List.set_cons_succ]
                      refine wpAnyH_take (i := 11) (v := ?_) rfl (by kernel_rfl) (by kernel_rfl) (by kernel_rfl) (fun _ _ _ h => h) (Or.inl ⟨by rfl, ?_⟩) (by assumption) ?_
                      rotate_left
                      · intro w hSw
                        try dsimp only at hSw
                        go_simp
                        try with_reducible rfl
                      try simp only [Act.put, List.setIfInBounds_toArray, List.set_cons_zero, List.set_cons_succ]
                      refine wpAnyH_ready (rs := [12]) (by kernel_rfl) (by simp) ?_
                      refine AllReadyH.cons rfl (fun K hK => ?_) AllReadyH.nil
                      go_simp
                      refine hK.out _ _ (trivial) (fun hHeld => ?_)
                      clear hK K
                      try simp only [Act.put, List.setIfInBounds_toArray, List.set_cons_zero, List.set_cons_succ]
                      refine wpAnyH_done (by kernel_rfl) ?_ _
                      refine NoPanic.normal ?_
                      go_wp2_with fail
                      go_roundw
                      case rel => exact ⟨k + 1, _, _, by omega, by go_num, by rw [HNX.out]; exact HG9.out⟩
                      case measure => simp [intOf]; omega
            · have hlt2 : ¬ (k : Int) < (M : Int) := by omega
              have hke : k = M := by omega
              subst hke
              obtain ⟨A2, c2, rfl⟩ := Gn.slice_of HGA.out.rc
              obtain ⟨cl, hcl⟩ : ∃ cl, cl = (rCs r1 k).1 := ⟨_, rfl⟩
              obtain ⟨rz, hrz⟩ : ∃ rz, rz = (rCs r1 k).2 := ⟨_, rfl⟩
              have hmk : cl.length = k := by rw [hcl]; exact rCs_len r1 k
              have hsz := rCs_size r1 k
              rw [← hcl] at hsz
              rw [← hcl, ← hrz, hmk] at HGA
              have HRE4 := Lib.hid (show getR (Oct.bs s) = getD9 (ml, ra) (cl, rz) by rw [HRE3.out, hcl, hrz])
              have HER := Lib.hid (Oct.err_any _ rz wr HGA.out.inn)
              have HSC := Lib.hid hsz
              have HCK := Lib.hid hmk
              clear hcl hrz hmk hsz HRE3
              go_wp2_with fail
              refine HER.out.mono ?_
              rintro e w9 ⟨rfl, rfl⟩
              by_cases he : rErr rz = 0
              · have he2 : ((rErr rz : Nat) : Int) = 0 := by omega
                have b0 := cell_of_row _ _ 0 _ _ (0, 0) HGA.out.box
                have b1 := cell_of_row _ _ 1 _ _ (0, 0) HGA.out.box
                have HHO := Lib.hid (holds_any ⟨ml, cl⟩ (by show ml.length ≤ 4096; have := HMN.out; omega) (by show cl.length ≤ 4096; have := HCK.out; omega) ⟨HSM.out, fun c hc => (HSC.out c hc).1⟩ (fun c hc => (HSC.out c hc).2) _ wr _ HGA.out.rl)
                obtain ⟨ok, hok⟩ : ∃ ok, ok = okR ⟨ml, cl⟩ := ⟨_, rfl⟩
                rw [← hok] at HHO
                have HOK := Lib.hid hok
                clear hok
                go_wp2_with fail
                refine HHO.out.mono ?_
                rintro e w10 ⟨rfl, hb10⟩
                have HGA := Lib.hid (HGA.out.under hb10)
                clear hb10 b0 b1
                cases ok with
                | false =>
                  have HR := Lib.hid (show getR (Oct.bs s) = .error 2 from by rw [HRE4.out]; unfold getD9; dsimp only; rw [if_neg (by omega), ← HOK.out, if_pos rfl])
                  have HRS := Lib.hid HGA.out.exit.1
                  have HBE := Lib.hid HGA.out.exit.2
                  have r0' := cell_of_row _ _ 0 _ _ (0, 0) HGA.out.res
                  have r1' := cell_of_row _ _ 1 _ _ (0, 0) HGA.out.res
                  have g0' := Gn.frozen_row HGA.out.res 0
                  have g1' := Gn.frozen_row HGA.out.res 1
                  go_wp2_with fail
                  refine bodyPost_ret (results_ct (P := Tryz.prog) rfl _ _ W.heap.size 27 _ (0, 0) _ _ rfl rfl HRS.out Tryz.underlying27 rfl (by kernel_rfl)) rfl ?_
                  rw [HR.out]
                  exact ⟨_, rfl, rl_zero _ _, HBE.out⟩
                | true =>
                  have HEN := Lib.hid (Oct.end_any _ rz w10 HGA.out.inn)
                  go_wp2_with fail
                  refine HEN.out.mono ?_
                  rintro e w11 ⟨rfl, rfl⟩
                  by_cases hn : rEnd rz = 0
                  · have hn2 : ((rEnd rz : Nat) : Int) = 0 := by omega
                    have HR := Lib.hid (show getR (Oct.bs s) = .ok ⟨ml, cl⟩ by rw [HRE4.out]; unfold getD9; dsimp only; rw [if_neg (by omega), ← HOK.out, if_neg (by decide), if_neg (by omega)])
                    have HRS := Lib.hid HGA.out.full.1
                    have HFU := Lib.hid HGA.out.full.2
                    have b0 := cell_of_row _ _ 0 _ _ (0, 0) HGA.out.box
                    have b1 := cell_of_row _ _ 1 _ _ (0, 0) HGA.out.box
                    have r0' := cell_of_row _ _ 0 _ _ (0, 0) HGA.out.res
                    have r1' := cell_of_row _ _ 1 _ _ (0, 0) HGA.out.res
                    have g0' := Gn.frozen_row HGA.out.res 0
                    have g1' := Gn.frozen_row HGA.out.res 1
                    go_wp2_with fail
                    refine bodyPost_ret (results_ct (P := Tryz.prog) rfl _ _ W.heap.size 27 _ (0, 0) _ _ rfl rfl HRS.out Tryz.underlying27 rfl (by kernel_rfl)) rfl ?_
                    rw [HR.out]
                    exact HFU.out
                  · have hn2 : ¬ ((rEnd rz : Nat) : Int) = 0 := by omega
                    have HR := Lib.hid (show getR (Oct.bs s) = .error (rEnd rz) from by rw [HRE4.out]; unfold getD9; dsimp only; rw [if_neg (by omega), ← HOK.out, if_neg (by decide), if_pos hn])
                    have HRS := Lib.hid HGA.out.exit.1
                    have HBE := Lib.hid HGA.out.exit.2
                    have r0' := cell_of_row _ _ 0 _ _ (0, 0) HGA.out.res
                    have r1' := cell_of_row _ _ 1 _ _ (0, 0) HGA.out.res
                    have g0' := Gn.frozen_row HGA.out.res 0
                    have g1' := Gn.frozen_row HGA.out.res 1
                    go_wp2_with fail
                    refine bodyPost_ret (results_ct (P := Tryz.prog) rfl _ _ W.heap.size 27 _ (0, 0) _ _ rfl rfl HRS.out Tryz.underlying27 rfl (by kernel_rfl)) rfl ?_
                    rw [HR.out]
                    exact ⟨_, rfl, rl_zero _ _, HBE.out⟩
              · have he2 : ¬ ((rErr rz : Nat) : Int) = 0 := by omega
                have HR := Lib.hid (show getR (Oct.bs s) = .error (rErr rz) from by rw [HRE4.out]; unfold getD9; dsimp only; rw [if_pos he])
                have HRS := Lib.hid HGA.out.exit.1
                have HBE := Lib.hid HGA.out.exit.2
                have r0' := cell_of_row _ _ 0 _ _ (0, 0) HGA.out.res
                have r1' := cell_of_row _ _ 1 _ _ (0, 0) HGA.out.res
                have g0' := Gn.frozen_row HGA.out.res 0
                have g1' := Gn.frozen_row HGA.out.res 1
                go_wp2_with fail
                refine bodyPost_ret (results_ct (P := Tryz.prog) rfl _ _ W.heap.size 27 _ (0, 0) _ _ rfl rfl HRS.out Tryz.underlying27 rfl (by kernel_rfl)) rfl ?_
                rw [HR.out]
                exact ⟨_, rfl, rl_zero _ _, HBE.out⟩
end Go.Proofs.YtnmhgjoofgmcgaaGreat.Rl
