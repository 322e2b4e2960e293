/-
  FactsLong: the walk.
-/
import Derived.Test.YtlkijnglpllcdaaFxLgW
import Derived.Test.YtlkijnglpllcdaaFxSpeaks
namespace Go.Proofs.Ytlkijnglpllcdaa.Fx
open Go.RowKit
set_option maxRecDepth 100000
set_option linter.unusedSimpArgs false
set_option linter.unusedVariables false

set_option maxHeartbeats 8000000 in
theorem walk_long (x : Int) (W : World) : Calls Try.prog 7 #[.int .i64 x] W fun e w' => e = .returned (.bool true) ∧ Below W.heap.size W w' := by
  obtain ⟨n, hn, hn1, hn2⟩ : ∃ n : Nat, 36 + bits .and .i64 x 7 = (n : Int) ∧ 36 ≤ n ∧ n ≤ 43 := ⟨(36 + bits .and .i64 x 7).toNat, by rw [and7]; omega, by rw [and7]; omega, by rw [and7]; omega⟩
  have hw2 : IntKind.i64.wrap (36 + bits .and .i64 x 7) = (n : Int) := by
    rw [hn]
    exact IntWalk.i64_in _ (by omega)
  have HS := Lib.hid (fun w => speaks_any w)
  obtain ⟨i0, hi0, hz0, hz1, hz2⟩ := info_parts sinfo
  obtain ⟨i3, hi3x, hv0, hv1, hv2⟩ := info_parts (show (Try.prog.info? 47).map (fun i => (i.zero, i.size, i.bytes)) = some (some (.agg #[.int .i64 0, .slice none 0 0]), 2, 32) by kernel_rfl)
  go_enter Try.func7, Try.ntmps7
  go_wp2_with fail
  refine (HS.out _).mono ?_
  rintro e w1 ⟨rfl, b1⟩
  have HB1 := Lib.hid b1
  clear b1 hn
  go_wp2_with fail
  generalize hV : World.alloc (World.alloc w1 _) _ = V
  have HM := Lib.hid (show LgN V (w1.heap.size + 1) w1.heap.size n (.slice none 0 0) (.slice none 0 0) 0 0 [] V from ⟨Nat.lt_succ_self _, by rw [← hV]; exact heap_new _ _ _ (by simp), by rw [← hV]; exact (heap_alloc_old _ _ (by simp)).trans (heap_alloc_new w1 _), World.ownsRow_nil _ _ _ _, PItems.nil _ _ _ _, (fun g h => by cases h), Below.refl _ _⟩)
  have HBV := Lib.hid (show Below W.heap.size W V by rw [← hV]; exact (HB1.out.alloc HB1.out.size _).alloc (by have := HB1.out.size; simp; omega) _)
  obtain ⟨B, hB⟩ : ∃ B, B = w1.heap.size + 1 := ⟨_, rfl⟩
  obtain ⟨B0, hB0⟩ : ∃ B0, B0 = w1.heap.size := ⟨_, rfl⟩
  rw [← hB] at HM ⊢
  rw [← hB0] at HM ⊢
  have HBE := Lib.hid (show B = B0 + 1 ∧ W.heap.size ≤ B0 by have := HB1.out.size; omega)
  clear hV hB hB0
  go_loopw [4] (fun i wr => ∃ (k : Nat) (va vp : Value) (vs : List (Value × Value)), k ≤ n + 1 ∧ i = .int .i64 k ∧ LgN V B B0 n va vp k k vs wr) (fun i _ => n + 1 - (intOf i).toNat)
  case atStart => exact ⟨0, _, _, [], Nat.zero_le _, rfl, HM.out⟩
  case round =>
    obtain ⟨k, va, vp, vs, hk, rfl, hA⟩ := hrel
    obtain ⟨Aa, ca, rfl⟩ := Gn.slice_of hA.na
    obtain ⟨Ap, cp, hvp⟩ := Gn.slice_of hA.pr.2.1
    rw [pdsL_len] at hvp
    subst hvp
    have HA := Lib.hid hA
    have hbx := hA.box
    have y2 : wr.cell? ⟨B, 2, none⟩ = some (.slice Aa k ca) := cell_of_row _ _ 2 _ _ (0, 0) hbx
    have HBL := Lib.hid (Gn.heap_lt hbx)
    clear hbx
    by_cases hlt : k ≤ n
    · have hlt2 : (k : Int) ≤ (n : Int) := by omega
      have hw8 : IntKind.u8.wrap (65 + (k : Int) % 26) = 65 + (k : Int) % 26 := by
        have : ∀ k : Nat, k < 44 → IntKind.u8.wrap (65 + (k : Int) % 26) = 65 + (k : Int) % 26 := by decide +kernel
        exact this k (by omega)
      have hw9 : IntKind.u8.wrap (97 + (k : Int) / 26) = 97 + (k : Int) / 26 := by
        have : ∀ k : Nat, k < 44 → IntKind.u8.wrap (97 + (k : Int) / 26) = 97 + (k : Int) / 26 := by decide +kernel
        exact this k (by omega)
      have hln := nm_new k (by omega) (65 + (k : Int) % 26) (97 + (k : Int) / 26) (by omega) (by omega) wr
      have HA2 := Lib.hid ((hA.under ((Below.refl wr.heap.size wr).alloc (Nat.le_refl _) (.cells #[.int .u8 (65 + (k : Int) % 26), .int .u8 (97 + (k : Int) / 26)] 5))).under ((Below.refl _ _).alloc (Nat.le_refl _) (.cells #[.string (nm k)] 9)))
      have HNEW := Lib.hid (Gn.row_new (wr.alloc (.cells #[.int .u8 (65 + (k : Int) % 26), .int .u8 (97 + (k : Int) / 26)] 5)) [.string (nm k)] 9 (wr.heap.size + 1) (by simp))
      clear hA
      go_upto_region 9 with (at_builtin; refine wpList_append_lies _ rfl _ _ 27 rfl (B + 1) 9 i0 _ 1 16 Try.underlying27 hi0 hz0 hz1 hz2 rfl (by decide) (.slice Aa k ca) k _ rfl HA2.out.na ⟨wr.heap.size + 1, 0, none⟩ 1 1 [.string (nm k)] rfl rfl HNEW.out (by simp [Value.oneCell']) (by decide) (by unfold maxLen; omega) (by omega) (by have := HBL.out; simp; omega) _ rfl ?_; intro gq cap' w4 hown4 hgrow4 hat4 hlt4; have h4 := HA2.out.name hown4 hgrow4 (fun g hg => by have hg : gq = g := (by injection hg); subst hg; rcases hat4 with h7 | h7; exact .inl h7; exact .inr (by omega)); have H4 := Lib.hid h4; have hb4 := (hgrow4.block B (by have := HBL.out; simp; omega) (fun e => by have := (own_base HA2.out.na e.symm).1; omega)).trans HA2.out.box; have y4 : w4.cell? ⟨B, 2, none⟩ = some (.slice Aa k ca) := cell_of_row _ _ 2 _ _ (0, 0) hb4; have yf := Gn.frozen_row hb4 2; clear hb4 h4 hown4 hgrow4 hat4 hlt4)
      generalize hW1 : World.setCell w4 _ _ = W1
      rw [hW1] at H4
      clear hW1 y2 y4 yf hln hw8 hw9
      have hbx4 := H4.out.box
      have z4 : W1.cell? ⟨B, 4, none⟩ = some (.slice Ap k cp) := cell_of_row _ _ 4 _ _ (0, 0) hbx4
      have HBL4 := Lib.hid (Gn.heap_lt hbx4)
      clear hbx4
      by_cases he : k = n
      · subst he
        have heq : ((k : Int) == (k : Int)) = true := by simp
        obtain ⟨WX, hWX⟩ : ∃ WX, WX = (W1.alloc (.cells #[.int .i64 ((k : Int) + 1), .int .i64 ((k : Int) + 1)] 3)).alloc (.cells #[.int .i64 (-1)] 3) := ⟨_, rfl⟩
        have HIX := Lib.hid (show IntsAt (fun r => W1.heap.size ≤ r) WX (pdL k k).right (.slice (some ⟨W1.heap.size + 1, 0, none⟩) 1 1) by
          have hr : (pdL k k).right = [-1] := by unfold pdL; simp only [if_true]
          rw [hr, hWX]
          refine ⟨_, 1, W1.heap.size + 1, rfl, Nat.le_refl _, fun _ => ⟨rfl, by simp, by omega⟩, fun i hi => ?_⟩
          have hi : i < 1 := hi
          obtain rfl : i = 0 := by omega
          exact cell_of_row _ _ 0 _ _ (0, 0) (heap_new _ _ _ (by simp)))
        have HBX := Lib.hid (show Below W1.heap.size W1 WX by rw [hWX]; exact ((Below.refl _ _).alloc (Nat.le_refl _) _).alloc (by simp) _)
        have hsx : WX.heap.size = W1.heap.size + 1 + 1 := by rw [hWX]; simp
        have HX4 := Lib.hid (H4.out.under HBX.out)
        have HY := Lib.hid (HX4.out.under ((Below.refl WX.heap.size WX).alloc (Nat.le_refl _) (.cells #[.int .i64 k, (.slice (some ⟨W1.heap.size + 1, 0, none⟩) 1 1)] 47)))
        have HSX := Lib.hid hsx
        have HNW := Lib.hid (Gn.row_new WX [.int .i64 k, (.slice (some ⟨W1.heap.size + 1, 0, none⟩) 1 1)] 47 WX.heap.size rfl)
        have HPU := Lib.hid (fun (w5 : World) (gq cap' : Nat) (hown5 : w5.ownsRow (B + 1) 47 2 (.slice (some ⟨gq, 0, none⟩) (k + 1) cap') (k + 1) (cells2 vs ++ [.int .i64 k, (.slice (some ⟨W1.heap.size + 1, 0, none⟩) 1 1)])) (hgrow5 : (WX.alloc (.cells #[.int .i64 k, (.slice (some ⟨W1.heap.size + 1, 0, none⟩) 1 1)] 47)).grownBy w5 (Value.slice Ap k cp).ownBlock) (hat5 : (Value.slice Ap k cp).ownBlock = some gq ∨ gq = (WX.alloc (.cells #[.int .i64 k, (.slice (some ⟨W1.heap.size + 1, 0, none⟩) 1 1)] 47)).heap.size) =>
          (⟨HY.out.prod ((HIX.out.keep (W' := WX.alloc (.cells #[.int .i64 k, (.slice (some ⟨W1.heap.size + 1, 0, none⟩) 1 1)] 47)) (by simp) (fun r hp hr => ⟨⟨⟨by have := HBL4.out; have hp : W1.heap.size ≤ r := hp; omega, fun e => by have := (own_base H4.out.na e).2; have hp : W1.heap.size ≤ r := hp; omega⟩, fun e => by have := (H4.out.pr.own_lt r e).1; have hp : W1.heap.size ≤ r := hp; omega⟩, fun j => Gn.cell_same (heap_alloc_old _ _ hr) j⟩))) hown5 hgrow5 (fun g hg => by
              have hg : gq = g := by injection hg
              subst hg
              rcases hat5 with h7 | h7
              · exact .inl h7
              · exact .inr (by omega)), (hgrow5.block B (by have := HBL4.out; have := HSX.out; simp; omega) (fun e => by have := (HX4.out.pr.own_lt B e.symm).2; omega)).trans HY.out.box⟩ : _ ∧ _))
        have hb4 : (W1.alloc (.cells #[.int .i64 ((k : Int) + 1), .int .i64 ((k : Int) + 1)] 3)).heap.size = W1.heap.size + 1 := by simp
        have hown := Lib.hid (show (WX.alloc (.cells #[.int .i64 k, (.slice (some ⟨W1.heap.size + 1, 0, none⟩) 1 1)] 47)).ownsRow (B + 1) 47 2 (.slice Ap k cp) k (cells2 vs) by have := HY.out.pr.2.1; rw [pdsL_len] at this; exact this)
        have zx : WX.cell? ⟨B, 4, none⟩ = some (.slice Ap k cp) := cell_of_row _ _ 4 _ _ (0, 0) HX4.out.box
        clear hsx
        subst hWX
        go_wp2_with (at_builtin; refine wpList_append_lies _ rfl _ _ 28 rfl (B + 1) 47 i3 _ 2 32 Try.underlying28 hi3x hv0 hv1 hv2 rfl (by decide) (.slice Ap k cp) k (cells2 vs) rfl hown.out ⟨W1.heap.size + 1 + 1, 0, none⟩ 1 1 [.int .i64 k, (.slice (some ⟨W1.heap.size + 1, 0, none⟩) 1 1)] rfl rfl (by have h := HNW.out; simp only [World.size_alloc] at h; exact h) (by simp [Value.oneCell']) (by decide) (by unfold maxLen; omega) (by omega) (by have := HBL4.out; simp; omega) _ rfl ?_; intro gq cap' w5 hown5 hgrow5 hat5 hlt5; have h7 := HPU.out w5 gq cap' hown5 hgrow5 hat5; have y4 : w5.cell? ⟨B, 4, none⟩ = some (.slice Ap k cp) := cell_of_row _ _ 4 _ _ (0, 0) h7.2; have yf := Gn.frozen_row h7.2 4; have H7 := Lib.hid h7.1; clear h7 hown5 hgrow5 hat5 hlt5)
        go_roundw
        case rel => exact ⟨k + 1, _, _, _, by omega, by simp, H7.out⟩
        case measure => first | (simp [intOf]; done) | (simp [intOf]; omega)
      · have heq : ((k : Int) == (n : Int)) = false := by rw [beq_eq_false_iff_ne]; omega
        obtain ⟨WX, hWX⟩ : ∃ WX, WX = W1.alloc (.cells #[.int .i64 ((k : Int) + 1), .int .i64 ((k : Int) + 1)] 3) := ⟨_, rfl⟩
        have HIX := Lib.hid (show IntsAt (fun r => W1.heap.size ≤ r) WX (pdL n k).right (.slice (some ⟨W1.heap.size, 0, none⟩) 2 2) by
          have hr : (pdL n k).right = [(k : Int) + 1, (k : Int) + 1] := by unfold pdL; simp only [he, if_false]
          rw [hr, hWX]
          refine ⟨_, 2, W1.heap.size, rfl, Nat.le_refl _, fun _ => ⟨rfl, by simp, Nat.le_refl _⟩, fun i hi => ?_⟩
          have hi : i < 2 := hi
          have hc : ∀ j, j < 2 → (W1.alloc (.cells #[.int .i64 ((k : Int) + 1), .int .i64 ((k : Int) + 1)] 3)).cell? ⟨W1.heap.size, j, none⟩ = #[Value.int .i64 ((k : Int) + 1), .int .i64 ((k : Int) + 1)][j]? := fun j _ => cell_of_row _ _ j _ _ (0, 0) (heap_alloc_new W1 _)
          rw [hc i hi]
          match i, hi with
          | 0, _ => rfl
          | 1, _ => rfl)
        have HBX := Lib.hid (show Below W1.heap.size W1 WX by rw [hWX]; exact (Below.refl _ _).alloc (Nat.le_refl _) _)
        have hsx : WX.heap.size = W1.heap.size + 1 := by rw [hWX]; simp
        have HX4 := Lib.hid (H4.out.under HBX.out)
        have HY := Lib.hid (HX4.out.under ((Below.refl WX.heap.size WX).alloc (Nat.le_refl _) (.cells #[.int .i64 k, (.slice (some ⟨W1.heap.size, 0, none⟩) 2 2)] 47)))
        have HSX := Lib.hid hsx
        have HNW := Lib.hid (Gn.row_new WX [.int .i64 k, (.slice (some ⟨W1.heap.size, 0, none⟩) 2 2)] 47 WX.heap.size rfl)
        have HPU := Lib.hid (fun (w5 : World) (gq cap' : Nat) (hown5 : w5.ownsRow (B + 1) 47 2 (.slice (some ⟨gq, 0, none⟩) (k + 1) cap') (k + 1) (cells2 vs ++ [.int .i64 k, (.slice (some ⟨W1.heap.size, 0, none⟩) 2 2)])) (hgrow5 : (WX.alloc (.cells #[.int .i64 k, (.slice (some ⟨W1.heap.size, 0, none⟩) 2 2)] 47)).grownBy w5 (Value.slice Ap k cp).ownBlock) (hat5 : (Value.slice Ap k cp).ownBlock = some gq ∨ gq = (WX.alloc (.cells #[.int .i64 k, (.slice (some ⟨W1.heap.size, 0, none⟩) 2 2)] 47)).heap.size) =>
          (⟨HY.out.prod ((HIX.out.keep (W' := WX.alloc (.cells #[.int .i64 k, (.slice (some ⟨W1.heap.size, 0, none⟩) 2 2)] 47)) (by simp) (fun r hp hr => ⟨⟨⟨by have := HBL4.out; have hp : W1.heap.size ≤ r := hp; omega, fun e => by have := (own_base H4.out.na e).2; have hp : W1.heap.size ≤ r := hp; omega⟩, fun e => by have := (H4.out.pr.own_lt r e).1; have hp : W1.heap.size ≤ r := hp; omega⟩, fun j => Gn.cell_same (heap_alloc_old _ _ hr) j⟩))) hown5 hgrow5 (fun g hg => by
              have hg : gq = g := by injection hg
              subst hg
              rcases hat5 with h7 | h7
              · exact .inl h7
              · exact .inr (by omega)), (hgrow5.block B (by have := HBL4.out; have := HSX.out; simp; omega) (fun e => by have := (HX4.out.pr.own_lt B e.symm).2; omega)).trans HY.out.box⟩ : _ ∧ _))
        have hb4 : (W1.alloc (.cells #[.int .i64 ((k : Int) + 1), .int .i64 ((k : Int) + 1)] 3)).heap.size = W1.heap.size + 1 := by simp
        have hown := Lib.hid (show (WX.alloc (.cells #[.int .i64 k, (.slice (some ⟨W1.heap.size, 0, none⟩) 2 2)] 47)).ownsRow (B + 1) 47 2 (.slice Ap k cp) k (cells2 vs) by have := HY.out.pr.2.1; rw [pdsL_len] at this; exact this)
        have zx : WX.cell? ⟨B, 4, none⟩ = some (.slice Ap k cp) := cell_of_row _ _ 4 _ _ (0, 0) HX4.out.box
        clear hsx
        subst hWX
        go_wp2_with (at_builtin; refine wpList_append_lies _ rfl _ _ 28 rfl (B + 1) 47 i3 _ 2 32 Try.underlying28 hi3x hv0 hv1 hv2 rfl (by decide) (.slice Ap k cp) k (cells2 vs) rfl hown.out ⟨W1.heap.size + 1, 0, none⟩ 1 1 [.int .i64 k, (.slice (some ⟨W1.heap.size, 0, none⟩) 2 2)] rfl rfl (by have h := HNW.out; simp only [World.size_alloc] at h; exact h) (by simp [Value.oneCell']) (by decide) (by unfold maxLen; omega) (by omega) (by have := HBL4.out; simp; omega) _ rfl ?_; intro gq cap' w5 hown5 hgrow5 hat5 hlt5; have h7 := HPU.out w5 gq cap' hown5 hgrow5 hat5; have y4 : w5.cell? ⟨B, 4, none⟩ = some (.slice Ap k cp) := cell_of_row _ _ 4 _ _ (0, 0) h7.2; have yf := Gn.frozen_row h7.2 4; have H7 := Lib.hid h7.1; clear h7 hown5 hgrow5 hat5 hlt5)
        go_roundw
        case rel => exact ⟨k + 1, _, _, _, by omega, by simp, H7.out⟩
        case measure => first | (simp [intOf]; done) | (simp [intOf]; omega)
    · obtain rfl : k = n + 1 := by omega
      have hlt2 : ¬ ((n + 1 : Nat) : Int) ≤ (n : Int) := by omega
      have hbx := hA.box
      have y0 := cell_of_row _ _ 0 _ _ (0, 0) hbx
      have y1 := cell_of_row _ _ 1 _ _ (0, 0) hbx
      have y3 := cell_of_row _ _ 3 _ _ (0, 0) hbx
      have y4 := cell_of_row _ _ 4 _ _ (0, 0) hbx
      have HSH := Lib.hid (shortest_any (gL n) (gL_fits n hn2) (gL_sound n hn1 hn2) _ wr _ hA.at_)
      have HBW := Lib.hid (HBV.out.trans (hA.below.mono HBE.out.2))
      clear hbx hA
      go_wp2_with fail
      refine HSH.out.mono ?_
      rintro e w2 ⟨b2, L, rfl, hb2, hr2, hl2, bb⟩
      have hlen : L.length = n + 1 := by rw [(runs_ok hl2.runs).1]; simp [gL]
      have z0 : w2.cell? ⟨b2, 0, none⟩ = some (.int .i64 (dL n)) := by
        have := hr2.cell 0 (by omega)
        have e := long_is hl2 n (Nat.le_refl n)
        rw [Nat.sub_self, List.getD_eq_getElem?_getD, List.getElem?_eq_getElem (by omega)] at e
        rw [this]; congr 2
      have z1 : w2.cell? ⟨b2, n, none⟩ = some (.int .i64 1) := by
        have := hr2.cell n (by omega)
        have e := long_is hl2 0 (Nat.zero_le n)
        rw [Nat.sub_zero, List.getD_eq_getElem?_getD, List.getElem?_eq_getElem (by omega)] at e
        rw [this]; congr 2
      have HB2 := Lib.hid (HBW.out.trans (bb.mono HBW.out.size))
      rw [hlen]
      have hd := dL_top n hn1 hn2
      clear hr2 hl2 bb hlen
      have q0 : (((n + 1 : Nat) : Int) == (n : Int) + 1) = true := by rw [beq_iff_eq]; omega
      have q1 : (n : Int) < ((n + 1 : Nat) : Int) := by omega
      have hwr : wrap64 ((2 : Int) ^ n) = 2 ^ n := by
        rcases (show n = 36 ∨ n = 37 ∨ n = 38 ∨ n = 39 ∨ n = 40 ∨ n = 41 ∨ n = 42 ∨ n = 43 by omega) with rfl | rfl | rfl | rfl | rfl | rfl | rfl | rfl <;> decide +kernel
      go_wp2_with fail
      go_quiet (fail)
      go_wp2_with fail
      try simp only [hwr, beq_self_eq_true]
      go_ret
      first | exact ⟨rfl, HB2.out⟩ | exact ⟨rfl, Gn.below_drewN HB2.out _⟩ | exact ⟨by simp, HB2.out⟩ | exact ⟨by simp, Gn.below_drewN HB2.out _⟩
end Go.Proofs.Ytlkijnglpllcdaa.Fx
