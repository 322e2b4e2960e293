/-
  Layer 18: RollDeeds, walked.
-/
import Derived.Test.YtnmhgjoofgmcgaaGreatRdSt
import Derived.BigQuiet
import Derived.Deep.QuietTactic
import Derived.Laws.StructEq
namespace Go.Proofs.YtnmhgjoofgmcgaaGreat.Rl
open Go.RowKit
open Fx (StrsAt)
open Oct (bs)
set_option maxRecDepth 100000
set_option linter.unusedSimpArgs false
set_option linter.unusedVariables false
theorem inv_of {k : Nat} {r : Rol} {d : Dd} (h : Inv k r) : Inv (k + 1) (rolOf (doM r d)) := by
  cases hh : doM r d with
  | error c => exact inv_nil.mono (Nat.zero_le _)
  | ok r' => exact inv_do h hh
theorem ok_of {k : Nat} {r : Rol} {d : Dd} (h : Inv k r) (h2 : Ok r) : Ok (rolOf (doM r d)) := by
  cases hh : doM r d with
  | error c => exact ok_nil
  | ok r' => exact ok_do h h2 hh
theorem same_of {k : Nat} {r : Rol} (h : Inv k r) (h2 : Ok r) (hk : k ≤ 60) (P Q : Nat → Prop) (W : World) (v u : Value) (a : RlAt P W r v) (b : RlAt Q W r u) :
    Calls Tryz.prog 8 #[v, u] W fun e w' => e = .returned (.bool true) ∧ Below W.heap.size W w' :=
  same_any r (ok_size h h2 hk) (by have := h.lm; omega) (by have := h.lc; omega) (fun c hc => by have := h.ls c hc; omega) P Q W v u a b
set_option maxHeartbeats 16000000 in
theorem deeds_walk (l : List Dd) (W : World) (v : Value) (hl : DsIn W l v) (hlen : l.length ≤ maxLen) (hs : ∀ d ∈ l, Short d) :
    Calls Tryz.prog 3 #[v] W fun e w' => e = .returned (.bool true) ∧ Below W.heap.size W w' := by
  have HSP := Lib.hid (fun w => speaks_any w)
  have HL := Lib.hid (fun (w : World) (b : Below W.heap.size W w) => hl.under b)
  obtain ⟨A, cap, bk, off, rfl, h0, hc⟩ := hl
  obtain ⟨L, hL⟩ : ∃ L, L = l.length := ⟨_, rfl⟩
  rw [← hL] at h0 HL ⊢
  have hL9 : L ≤ 9223372036854775807 := by rw [hL]; exact hlen
  have HH0 := Lib.hid h0
  have HC := Lib.hid hc
  have HSH := Lib.hid hs
  have HLL := Lib.hid hL
  clear hs hlen hL h0 hc
  go_enter Tryz.func3, Tryz.ntmps3
  go_wp2_with fail
  refine (HSP.out W).mono ?_
  rintro e w1 ⟨rfl, hb1⟩
  obtain ⟨V, hV⟩ : ∃ V, V = (w1.alloc (.cells #[.slice none 0 0, .slice none 0 0] 27)).alloc (.cells #[.slice none 0 0, .slice none 0 0] 31) := ⟨_, rfl⟩
  have hbv : Below w1.heap.size w1 V := by rw [hV]; exact ((Below.refl _ _).alloc (Nat.le_refl _) _).alloc (by simp) _
  have hkp : TwoAt W w1.heap.size (w1.heap.size + 1) V ⟨[], []⟩ (.slice none 0 0) (.slice none 0 0) (.slice none 0 0) (.slice none 0 0) := ⟨by rw [hV]; exact (heap_alloc_old _ _ (by simp)).trans (heap_alloc_new w1 _), by rw [hV]; have := heap_alloc_new (w1.alloc (.cells #[.slice none 0 0, .slice none 0 0] 27)) (.cells #[.slice none 0 0, .slice none 0 0] 31); simpa using this, rl_zero _ _, rl_zero _ _, hb1.trans (hbv.mono hb1.size), hb1.size, by omega⟩
  obtain ⟨B, hB⟩ : ∃ B, B = w1.heap.size := ⟨_, rfl⟩
  rw [← hB] at hkp
  obtain ⟨C, hC⟩ : ∃ C, C = B + 1 := ⟨_, rfl⟩
  rw [← hC] at hkp
  have HKP := Lib.hid hkp
  have HV := Lib.hid hV
  have HB := Lib.hid hB
  have HCC := Lib.hid hC
  clear hb1 hV hbv hkp hB hC
  go_upto_region 5 with fail
  rw [← HV.out, ← HB.out, ← HCC.out]
  go_wp2_with fail
  go_loopw [5] (fun x wr => ∃ (k : Nat) (r : Rol) (vm vc wm wc : Value), k ≤ 40 ∧ k ≤ L ∧ x = .int .i64 k ∧ Inv k r ∧ Ok r ∧ TwoAt W B C wr r vm vc wm wc) (fun x _ => 40 - (intOf x).toNat)
  case atStart => exact ⟨0, ⟨[], []⟩, _, _, _, _, by omega, by omega, rfl, inv_nil, ok_nil, HKP.out⟩
  case round =>
    obtain ⟨k, r, vm, vc, wm, wc, hk40, hkL, rfl, hinv, hok, hkp⟩ := hrel
    have HIN := Lib.hid hinv
    have HOK := Lib.hid hok
    have HK := Lib.hid hkp
    clear hinv hkp hok
    by_cases hlt : k < L
    · have hlt2 : (k : Int) < (L : Int) := by omega
      by_cases h40 : k < 40
      · have h402 : (k : Int) < 40 := by omega
        have hkl : k < l.length := by rw [← HLL.out]; exact hlt
        obtain ⟨rfl, hbk⟩ := HH0.out (by omega)
        obtain ⟨d, hd⟩ : ∃ d, d = l[k] := ⟨_, rfl⟩
        obtain ⟨q0, q1, q2, q3⟩ := HC.out k hkl
        rw [← hd] at q0 q1 q2 q3
        have hshort : Short d := by rw [hd]; exact HSH.out _ (List.getElem_mem hkl)
        have HSD := Lib.hid hshort
        have HLO := Lib.hid (fun w => long_any d w HSD.out.1 HSD.out.2)
        have HDO := Lib.hid (fun (w : World) (hw : TwoAt W B C w r vm vc wm wc) => do_any r d (HIN.out.sized (by omega)) HSD.out.1 _ w _ hw.rl)
        have HDN := Lib.hid (fun (w : World) (hw : TwoAt W B C w r vm vc wm wc) => done_any r d (HIN.out.sized (by omega)) (fun h => ok_ne HIN.out HOK.out h) HSD.out.1 _ w _ hw.rd)
        have hIV : Inv (k + 1) (rolOf (doM r d)) := inv_of HIN.out
        have hOV : Ok (rolOf (doM r d)) := ok_of HIN.out HOK.out
        obtain ⟨R, hR⟩ : ∃ R, R = doM r d := ⟨_, rfl⟩
        rw [← hR] at HDO HDN hIV hOV
        have HIV := Lib.hid hIV
        have HOV := Lib.hid hOV
        obtain ⟨lg, hlg⟩ : ∃ lg, lg = longM d := ⟨_, rfl⟩
        rw [← hlg] at HLO
        obtain ⟨dw, da, db, dn⟩ := d
        dsimp only [encD] at *
        have HQ := Lib.hid (fun (w : World) (b : Below W.heap.size W w) => show w.cell? ⟨bk, off + k * 4, none⟩ = some (.int .i64 dw) ∧ w.cell? ⟨bk, off + k * 4 + 1, none⟩ = some (.string da) ∧ w.cell? ⟨bk, off + k * 4 + 2, none⟩ = some (.string db) ∧ w.cell? ⟨bk, off + k * 4 + 3, none⟩ = some (.int .i64 dn) from ⟨(b.cell (p := ⟨bk, off + k * 4, none⟩) hbk).trans q0, (b.cell (p := ⟨bk, off + k * 4 + 1, none⟩) hbk).trans q1, (b.cell (p := ⟨bk, off + k * 4 + 2, none⟩) hbk).trans q2, (b.cell (p := ⟨bk, off + k * 4 + 3, none⟩) hbk).trans q3⟩)
        have HW1 := Lib.hid (show IntKind.i64.wrap ((k : Int) + 1) = ((k + 1 : Nat) : Int) from IntWalk.i64_in _ (by omega))
        clear hd hshort hIV hOV hR hlg q0 q1 q2 q3
        obtain ⟨q0, q1, q2, q3⟩ := HQ.out wr HK.out.bel
        clear hbk
        go_wp2_with fail
        refine (HLO.out wr).mono ?_
        rintro e w2 ⟨rfl, hb2⟩
        have HK2 := Lib.hid (HK.out.under hb2)
        clear hb2 q0 q1 q2 q3
        cases lg with
        | true =>
          go_wp2_with fail
          go_ret
          exact ⟨rfl, HK2.out.bel⟩
        | false =>
          go_upto_region 10 with fail
          obtain ⟨A1, c1, A2, c2, rfl, rfl⟩ := form2 HK2.out.rl
          obtain ⟨A3, c3, A4, c4, rfl, rfl⟩ := form2 HK2.out.rd
          obtain ⟨n1, hn1⟩ : ∃ n1, n1 = r.ms.length := ⟨_, rfl⟩
          obtain ⟨n2, hn2⟩ : ∃ n2, n2 = r.cs.length := ⟨_, rfl⟩
          rw [← hn1, ← hn2] at HK2 HDO HDN
          clear HK hn1 hn2
          have HDO2 := Lib.hid (fun (w : World) (b : Below w2.heap.size w2 w) => HDO.out w (HK2.out.under b))
          have HDN2 := Lib.hid (fun (w : World) (b : Below w2.heap.size w2 w) => HDN.out w (HK2.out.under b))
          clear HDO HDN
          have HSS := Lib.hid (fun (w' : World) (b : Below w2.heap.size w2 w') => show (fun w' : World => w'.cell? ⟨B, 0, none⟩ = some (.slice A1 n1 c1) ∧ w'.cell? ⟨B, 1, none⟩ = some (.slice A2 n2 c2) ∧ w'.cell? ⟨C, 0, none⟩ = some (.slice A3 n1 c3) ∧ w'.cell? ⟨C, 1, none⟩ = some (.slice A4 n2 c4) ∧ w'.cell? ⟨bk, off + k * 4, none⟩ = some (.int .i64 dw) ∧ w'.cell? ⟨bk, off + k * 4 + 1, none⟩ = some (.string da) ∧ w'.cell? ⟨bk, off + k * 4 + 2, none⟩ = some (.string db) ∧ w'.cell? ⟨bk, off + k * 4 + 3, none⟩ = some (.int .i64 dn)) w' from by
            obtain ⟨z1, z2, z3, z4⟩ := (HK2.out.under b).cells
            exact ⟨z1, z2, z3, z4, HQ.out w' (HK2.out.under b).bel⟩)
          go_cut [6, 7] from 39 to 47 (fun sa sb wx => ∃ (q : Nat) (A5 : Option Addr) (n5 c5 : Nat) (A6 : Option Addr) (n6 c6 : Nat), sa = .pointer (some ⟨q, 0, none⟩) ∧ sb = .int .i64 (codeOf R : Nat) ∧ NewRl w2 wx q 27 (rolOf R) (.slice A5 n5 c5) (.slice A6 n6 c6))
          case first =>
            as_aux_lemma =>
              refine wp_region_noPanic ?_
              refine wp_region_held_drew (S := (fun w' : World => w'.cell? ⟨B, 0, none⟩ = some (.slice A1 n1 c1) ∧ w'.cell? ⟨B, 1, none⟩ = some (.slice A2 n2 c2) ∧ w'.cell? ⟨C, 0, none⟩ = some (.slice A3 n1 c3) ∧ w'.cell? ⟨C, 1, none⟩ = some (.slice A4 n2 c4) ∧ w'.cell? ⟨bk, off + k * 4, none⟩ = some (.int .i64 dw) ∧ w'.cell? ⟨bk, off + k * 4 + 1, none⟩ = some (.string da) ∧ w'.cell? ⟨bk, off + k * 4 + 2, none⟩ = some (.string db) ∧ w'.cell? ⟨bk, off + k * 4 + 3, none⟩ = some (.int .i64 dn))) (by kernel_rfl) ?_ (fun hHeld => ?_)
              · exact HSS.out _ (Gn.below_drew (Below.refl _ _))
              refine wpAnyH_take (i := 0) (v := ?_) rfl (by kernel_rfl) (by kernel_rfl) (by kernel_rfl) (fun _ _ _ h => h) (Or.inl ⟨by rfl, ?_⟩) (by assumption) ?_
              rotate_left
              · intro w hSw
                try dsimp only at hSw
                go_simp
                try with_reducible rfl
              try simp only [Act.put, List.setIfInBounds_toArray, List.set_cons_zero, List.set_cons_succ]
              refine wpAnyH_take (i := 1) (v := ?_) rfl (by kernel_rfl) (by kernel_rfl) (by kernel_rfl) (fun _ _ _ h => h) (Or.inl ⟨by rfl, ?_⟩) (by assumption) ?_
              rotate_left
              · intro w hSw
                try dsimp only at hSw
                go_simp
                try with_reducible rfl
              try simp only [Act.put, List.setIfInBounds_toArray, List.set_cons_zero, List.set_cons_succ]
              refine wpAnyH_take (i := 2) (v := ?_) rfl (by kernel_rfl) (by kernel_rfl) (by kernel_rfl) (fun _ _ _ h => h) (Or.inl ⟨by rfl, ?_⟩) (by assumption) ?_
              rotate_left
              · intro w hSw
                try dsimp only at hSw
                go_simp
                try with_reducible rfl
              try simp only [Act.put, List.setIfInBounds_toArray, List.set_cons_zero, List.set_cons_succ]
              refine wpAnyH_take (i := 3) (v := ?_) rfl (by kernel_rfl) (by kernel_rfl) (by kernel_rfl) (fun _ _ _ h => h) (Or.inl ⟨by rfl, ?_⟩) (by assumption) ?_
              rotate_left
              · intro w hSw
                try dsimp only at hSw
                go_simp
                try with_reducible rfl
              try simp only [Act.put, List.setIfInBounds_toArray, List.set_cons_zero, List.set_cons_succ]
              refine wpAnyH_take (i := 4) (v := ?_) rfl (by kernel_rfl) (by kernel_rfl) (by kernel_rfl) (fun _ _ _ h => h) (Or.inl ⟨by rfl, ?_⟩) (by assumption) ?_
              rotate_left
              · intro w hSw
                try dsimp only at hSw
                go_simp
                try with_reducible rfl
              try simp only [Act.put, List.setIfInBounds_toArray, List.set_cons_zero, List.set_cons_succ]
              refine wpAnyH_ready (rs := [5, 9]) (by kernel_rfl) (by simp) ?_
              refine AllReadyH.cons rfl (fun K hK => ?_) ?_
              · go_simp
                go_at_call 6
                refine (HDO2.out _ (Gn.below_drew (Below.refl _ _))).mono ?_
                rintro e w3 ⟨v3, rfl, hr3, hb3⟩
                obtain ⟨A5, c5, A6, c6, rfl, _, _⟩ := hr3.form
                obtain ⟨n5, hn5⟩ : ∃ n5, n5 = (rolOf R).ms.length := ⟨_, rfl⟩
                obtain ⟨n6, hn6⟩ : ∃ n6, n6 = (rolOf R).cs.length := ⟨_, rfl⟩
                rw [← hn5, ← hn6] at hr3 ⊢
                have HBB := Lib.hid hb3
                have HNB := Lib.hid (show NewRl w2 (w3.alloc (.cells #[.slice A5 n5 c5, .slice A6 n6 c6] 27)) w3.heap.size 27 (rolOf R) (.slice A5 n5 c5) (.slice A6 n6 c6) from (NewRl.late hr3 hb3).drew)
                have HBW := Lib.hid ((Gn.below_drew (Below.refl _ _)).trans (hb3.mono (Nat.le_refl _)))
                clear hb3 hr3 hn5 hn6
                refine hK.out _ _ (HSS.out _ HBW.out) (fun hHeld => ?_)
                clear hK K
                try simp only [Act.put, List.setIfInBounds_toArray, List.set_cons_zero, List.set_cons_succ]
                refine wpAnyH_take (i := 6) (v := ?_) rfl (by kernel_rfl) (by kernel_rfl) (by kernel_rfl) (fun _ _ _ h => h) (Or.inl ⟨by rfl, ?_⟩) (by assumption) ?_
                rotate_left
                · intro w hSw
                  try dsimp only at hSw
                  go_simp
                  try with_reducible rfl
                try simp only [Act.put, List.setIfInBounds_toArray, List.set_cons_zero, List.set_cons_succ]
                refine wpAnyH_take (i := 7) (v := ?_) rfl (by kernel_rfl) (by kernel_rfl) (by kernel_rfl) (fun _ _ _ h => h) (Or.inl ⟨by rfl, ?_⟩) (by assumption) ?_
                rotate_left
                · intro w hSw
                  try dsimp only at hSw
                  go_simp
                  try with_reducible rfl
                try simp only [Act.put, List.setIfInBounds_toArray, List.set_cons_zero, List.set_cons_succ]
                refine wpAnyH_take (i := 8) (v := ?_) rfl (by kernel_rfl) (by kernel_rfl) (by kernel_rfl) (fun _ _ _ h => h) (Or.inl ⟨by rfl, ?_⟩) (by assumption) ?_
                rotate_left
                · intro w hSw
                  try dsimp only at hSw
                  go_simp
                  try with_reducible rfl
                try simp only [Act.put, List.setIfInBounds_toArray, List.set_cons_zero, List.set_cons_succ]
                refine wpAnyH_ready (rs := [9]) (by kernel_rfl) (by simp) ?_
                refine AllReadyH.cons rfl (fun K hK => ?_) AllReadyH.nil
                go_simp
                refine hK.out _ _ (HSS.out _ (HBW.out.trans (((Below.refl _ _).alloc (Nat.le_refl _) _).mono HBW.out.size))) (fun hHeld => ?_)
                clear hK K
                try simp only [Act.put, List.setIfInBounds_toArray, List.set_cons_zero, List.set_cons_succ]
                refine wpAnyH_ready (rs := [10]) (by kernel_rfl) (by simp) ?_
                refine AllReadyH.cons rfl (fun K hK => ?_) AllReadyH.nil
                go_simp
                refine hK.out _ _ (HSS.out _ HNB.out.nw.bel) (fun hHeld => ?_)
                clear hK K
                try simp only [Act.put, List.setIfInBounds_toArray, List.set_cons_zero, List.set_cons_succ]
                refine wpAnyH_take (i := 11) (v := ?_) rfl (by kernel_rfl) (by kernel_rfl) (by kernel_rfl) (fun _ _ _ h => h) (Or.inl ⟨by rfl, ?_⟩) (by assumption) ?_
                rotate_left
                · intro w hSw
                  try dsimp only at hSw
                  go_simp
                  try with_reducible rfl
                try simp only [Act.put, List.setIfInBounds_toArray, List.set_cons_zero, List.set_cons_succ]
                refine wpAnyH_done (by kernel_rfl) ?_ _
                refine NoPanic.normal ?_
                go_wp2_with fail
                go_meet
                case rel => exact ⟨_, _, _, _, _, _, _, rfl, rfl, HNB.out⟩
              refine AllReadyH.cons rfl (fun K hK => ?_) AllReadyH.nil
              · go_simp
                refine hK.out _ _ (HSS.out _ ((Gn.below_drew (Below.refl _ _)).trans (((Below.refl _ _).alloc (Nat.le_refl _) _).mono (Nat.le_refl _)))) (fun hHeld => ?_)
                clear hK K
                try simp only [Act.put, List.setIfInBounds_toArray, List.set_cons_zero, List.set_cons_succ]
                refine wpAnyH_ready (rs := [5]) (by kernel_rfl) (by simp) ?_
                refine AllReadyH.cons rfl (fun K hK => ?_) AllReadyH.nil
                go_simp
                go_at_call 6
                refine (HDO2.out _ ((Gn.below_drew (Below.refl _ _)).trans (((Below.refl _ _).alloc (Nat.le_refl _) _).mono (Nat.le_refl _)))).mono ?_
                rintro e w3 ⟨v3, rfl, hr3, hb3⟩
                obtain ⟨A5, c5, A6, c6, rfl, _, _⟩ := hr3.form
                obtain ⟨n5, hn5⟩ : ∃ n5, n5 = (rolOf R).ms.length := ⟨_, rfl⟩
                obtain ⟨n6, hn6⟩ : ∃ n6, n6 = (rolOf R).cs.length := ⟨_, rfl⟩
                rw [← hn5, ← hn6] at hr3 ⊢
                have HBB := Lib.hid hb3
                have hq := (HBB.out.block w2.heap.size (by simp)).trans (heap_alloc_new w2.drew _)
                have q0 := cell_of_row _ _ 0 _ _ (0, 0) hq
                have q1 := cell_of_row _ _ 1 _ _ (0, 0) hq
                have f0 := Gn.frozen_row hq 0
                have f1 := Gn.frozen_row hq 1
                have HNB := Lib.hid (show NewRl w2 ((w3.setCell ⟨w2.heap.size, 0, none⟩ (.slice A5 n5 c5)).setCell ⟨w2.heap.size, 1, none⟩ (.slice A6 n6 c6)) w2.heap.size 27 (rolOf R) (.slice A5 n5 c5) (.slice A6 n6 c6) from (NewRl.early hr3 HBB.out hq).drew)
                have HBW := Lib.hid (((Gn.below_drew (Below.refl _ _)).trans (((Below.refl _ _).alloc (Nat.le_refl _) _).mono (Nat.le_refl _))).trans (hb3.mono (by simp)))
                clear hb3 hr3 hq hn5 hn6
                refine hK.out _ _ (HSS.out _ HBW.out) (fun hHeld => ?_)
                clear hK K
                try simp only [Act.put, List.setIfInBounds_toArray, List.set_cons_zero, List.set_cons_succ]
                refine wpAnyH_take (i := 6) (v := ?_) rfl (by kernel_rfl) (by kernel_rfl) (by kernel_rfl) (fun _ _ _ h => h) (Or.inl ⟨by rfl, ?_⟩) (by assumption) ?_
                rotate_left
                · intro w hSw
                  try dsimp only at hSw
                  go_simp
                  try with_reducible rfl
                try simp only [Act.put, List.setIfInBounds_toArray, List.set_cons_zero, List.set_cons_succ]
                refine wpAnyH_take (i := 7) (v := ?_) rfl (by kernel_rfl) (by kernel_rfl) (by kernel_rfl) (fun _ _ _ h => h) (Or.inl ⟨by rfl, ?_⟩) (by assumption) ?_
                rotate_left
                · intro w hSw
                  try dsimp only at hSw
                  go_simp
                  try with_reducible rfl
                try simp only [Act.put, List.setIfInBounds_toArray, List.set_cons_zero, List.set_cons_succ]
                refine wpAnyH_take (i := 8) (v := ?_) rfl (by kernel_rfl) (by kernel_rfl) (by kernel_rfl) (fun _ _ _ h => h) (Or.inl ⟨by rfl, ?_⟩) (by assumption) ?_
                rotate_left
                · intro w hSw
                  try dsimp only at hSw
                  go_simp
                  try with_reducible rfl
                try simp only [Act.put, List.setIfInBounds_toArray, List.set_cons_zero, List.set_cons_succ]
                refine wpAnyH_ready (rs := [10]) (by kernel_rfl) (by simp) ?_
                refine AllReadyH.cons rfl (fun K hK => ?_) AllReadyH.nil
                go_simp
                refine hK.out _ _ (HSS.out _ HNB.out.nw.bel) (fun hHeld => ?_)
                clear hK K
                try simp only [Act.put, List.setIfInBounds_toArray, List.set_cons_zero, List.set_cons_succ]
                refine wpAnyH_take (i := 11) (v := ?_) rfl (by kernel_rfl) (by kernel_rfl) (by kernel_rfl) (fun _ _ _ h => h) (Or.inl ⟨by rfl, ?_⟩) (by assumption) ?_
                rotate_left
                · intro w hSw
                  try dsimp only at hSw
                  go_simp
                  try with_reducible rfl
                try simp only [Act.put, List.setIfInBounds_toArray, List.set_cons_zero, List.set_cons_succ]
                refine wpAnyH_done (by kernel_rfl) ?_ _
                refine NoPanic.normal ?_
                go_wp2_with fail
                go_meet
                case rel => exact ⟨_, _, _, _, _, _, _, rfl, rfl, HNB.out⟩
          case rest =>
            obtain ⟨q, A5, n5, c5, A6, n6, c6, rfl, rfl, hbox⟩ := hcut
            have HX := Lib.hid hbox
            have HK5 := Lib.hid (HK2.out.under hbox.nw.bel)
            have HDN5 := Lib.hid (fun (w : World) (b : Below wc.heap.size wc w) => HDN2.out w (hbox.nw.bel.trans (b.mono hbox.nw.bel.size)))
            have HQ2 := Lib.hid (Nat.lt_of_lt_of_le (Gn.heap_lt HK2.out.bz) hbox.nw.hi)
            have HX1 := Lib.hid (show RlAt (fun b => C < b) wc (rolOf R) (.agg #[.slice A5 n5 c5, .slice A6 n6 c6]) from hbox.rl.keep (Nat.le_refl _) fun b hb _ => ⟨Nat.lt_of_lt_of_le (Gn.heap_lt HK2.out.bz) hb, fun _ => rfl⟩)
            clear hbox HSS HDO2 HDN2 HK2
            rename World => w5
            have HK2 := HK5
            clear HK5
            have HX5 := Lib.hid (show w5.heap[q]? = _ from HX.out.nw.box)
            clear HX
            have HSS := Lib.hid (fun (w' : World) (b : Below w5.heap.size w5 w') => show (fun w' : World => w'.cell? ⟨B, 0, none⟩ = some (.slice A1 n1 c1) ∧ w'.cell? ⟨B, 1, none⟩ = some (.slice A2 n2 c2) ∧ w'.cell? ⟨C, 0, none⟩ = some (.slice A3 n1 c3) ∧ w'.cell? ⟨C, 1, none⟩ = some (.slice A4 n2 c4) ∧ w'.cell? ⟨bk, off + k * 4, none⟩ = some (.int .i64 dw) ∧ w'.cell? ⟨bk, off + k * 4 + 1, none⟩ = some (.string da) ∧ w'.cell? ⟨bk, off + k * 4 + 2, none⟩ = some (.string db) ∧ w'.cell? ⟨bk, off + k * 4 + 3, none⟩ = some (.int .i64 dn)) w' from by
              obtain ⟨z1, z2, z3, z4⟩ := (HK2.out.under b).cells
              exact ⟨z1, z2, z3, z4, HQ.out w' (HK2.out.under b).bel⟩)
            go_upto_region 11 with fail
            go_cut [8, 9] from 48 to 56 (fun sa sb wx => ∃ (q : Nat) (A7 : Option Addr) (n7 c7 : Nat) (A8 : Option Addr) (n8 c8 : Nat), sa = .pointer (some ⟨q, 0, none⟩) ∧ sb = .int .i64 (codeOf R : Nat) ∧ NewRl w5 wx q 31 (rolOf R) (.slice A7 n7 c7) (.slice A8 n8 c8))
            case first =>
              as_aux_lemma =>
                refine wp_region_noPanic ?_
                refine wp_region_held_drew (S := (fun w' : World => w'.cell? ⟨B, 0, none⟩ = some (.slice A1 n1 c1) ∧ w'.cell? ⟨B, 1, none⟩ = some (.slice A2 n2 c2) ∧ w'.cell? ⟨C, 0, none⟩ = some (.slice A3 n1 c3) ∧ w'.cell? ⟨C, 1, none⟩ = some (.slice A4 n2 c4) ∧ w'.cell? ⟨bk, off + k * 4, none⟩ = some (.int .i64 dw) ∧ w'.cell? ⟨bk, off + k * 4 + 1, none⟩ = some (.string da) ∧ w'.cell? ⟨bk, off + k * 4 + 2, none⟩ = some (.string db) ∧ w'.cell? ⟨bk, off + k * 4 + 3, none⟩ = some (.int .i64 dn))) (by kernel_rfl) ?_ (fun hHeld => ?_)
                · exact HSS.out _ (Gn.below_drew (Below.refl _ _))
                refine wpAnyH_take (i := 0) (v := ?_) rfl (by kernel_rfl) (by kernel_rfl) (by kernel_rfl) (fun _ _ _ h => h) (Or.inl ⟨by rfl, ?_⟩) (by assumption) ?_
                rotate_left
                · intro w hSw
                  try dsimp only at hSw
                  go_simp
                  try with_reducible rfl
                try simp only [Act.put, List.setIfInBounds_toArray, List.set_cons_zero, List.set_cons_succ]
                refine wpAnyH_take (i := 1) (v := ?_) rfl (by kernel_rfl) (by kernel_rfl) (by kernel_rfl) (fun _ _ _ h => h) (Or.inl ⟨by rfl, ?_⟩) (by assumption) ?_
                rotate_left
                · intro w hSw
                  try dsimp only at hSw
                  go_simp
                  try with_reducible rfl
                try simp only [Act.put, List.setIfInBounds_toArray, List.set_cons_zero, List.set_cons_succ]
                refine wpAnyH_take (i := 2) (v := ?_) rfl (by kernel_rfl) (by kernel_rfl) (by kernel_rfl) (fun _ _ _ h => h) (Or.inl ⟨by rfl, ?_⟩) (by assumption) ?_
                rotate_left
                · intro w hSw
                  try dsimp only at hSw
                  go_simp
                  try with_reducible rfl
                try simp only [Act.put, List.setIfInBounds_toArray, List.set_cons_zero, List.set_cons_succ]
                refine wpAnyH_take (i := 3) (v := ?_) rfl (by kernel_rfl) (by kernel_rfl) (by kernel_rfl) (fun _ _ _ h => h) (Or.inl ⟨by rfl, ?_⟩) (by assumption) ?_
                rotate_left
                · intro w hSw
                  try dsimp only at hSw
                  go_simp
                  try with_reducible rfl
                try simp only [Act.put, List.setIfInBounds_toArray, List.set_cons_zero, List.set_cons_succ]
                refine wpAnyH_take (i := 4) (v := ?_) rfl (by kernel_rfl) (by kernel_rfl) (by kernel_rfl) (fun _ _ _ h => h) (Or.inl ⟨by rfl, ?_⟩) (by assumption) ?_
                rotate_left
                · intro w hSw
                  try dsimp only at hSw
                  go_simp
                  try with_reducible rfl
                try simp only [Act.put, List.setIfInBounds_toArray, List.set_cons_zero, List.set_cons_succ]
                refine wpAnyH_ready (rs := [5, 9]) (by kernel_rfl) (by simp) ?_
                refine AllReadyH.cons rfl (fun K hK => ?_) ?_
                · go_simp
                  go_at_call 7
                  refine (HDN5.out _ (Gn.below_drew (Below.refl _ _))).mono ?_
                  rintro e w3 ⟨v3, rfl, hr3, hb3⟩
                  obtain ⟨A5, c5, A6, c6, rfl, _, _⟩ := hr3.form
                  obtain ⟨n5, hn5⟩ : ∃ n5, n5 = (rolOf R).ms.length := ⟨_, rfl⟩
                  obtain ⟨n6, hn6⟩ : ∃ n6, n6 = (rolOf R).cs.length := ⟨_, rfl⟩
                  rw [← hn5, ← hn6] at hr3 ⊢
                  have HBB := Lib.hid hb3
                  have HNB := Lib.hid (show NewRl w5 (w3.alloc (.cells #[.slice A5 n5 c5, .slice A6 n6 c6] 31)) w3.heap.size 31 (rolOf R) (.slice A5 n5 c5) (.slice A6 n6 c6) from (NewRl.late hr3 hb3).drew)
                  have HBW := Lib.hid ((Gn.below_drew (Below.refl _ _)).trans (hb3.mono (Nat.le_refl _)))
                  clear hb3 hr3 hn5 hn6
                  refine hK.out _ _ (HSS.out _ HBW.out) (fun hHeld => ?_)
                  clear hK K
                  try simp only [Act.put, List.setIfInBounds_toArray, List.set_cons_zero, List.set_cons_succ]
                  refine wpAnyH_take (i := 6) (v := ?_) rfl (by kernel_rfl) (by kernel_rfl) (by kernel_rfl) (fun _ _ _ h => h) (Or.inl ⟨by rfl, ?_⟩) (by assumption) ?_
                  rotate_left
                  · intro w hSw
                    try dsimp only at hSw
                    go_simp
                    try with_reducible rfl
                  try simp only [Act.put, List.setIfInBounds_toArray, List.set_cons_zero, List.set_cons_succ]
                  refine wpAnyH_take (i := 7) (v := ?_) rfl (by kernel_rfl) (by kernel_rfl) (by kernel_rfl) (fun _ _ _ h => h) (Or.inl ⟨by rfl, ?_⟩) (by assumption) ?_
                  rotate_left
                  · intro w hSw
                    try dsimp only at hSw
                    go_simp
                    try with_reducible rfl
                  try simp only [Act.put, List.setIfInBounds_toArray, List.set_cons_zero, List.set_cons_succ]
                  refine wpAnyH_take (i := 8) (v := ?_) rfl (by kernel_rfl) (by kernel_rfl) (by kernel_rfl) (fun _ _ _ h => h) (Or.inl ⟨by rfl, ?_⟩) (by assumption) ?_
                  rotate_left
                  · intro w hSw
                    try dsimp only at hSw
                    go_simp
                    try with_reducible rfl
                  try simp only [Act.put, List.setIfInBounds_toArray, List.set_cons_zero, List.set_cons_succ]
                  refine wpAnyH_ready (rs := [9]) (by kernel_rfl) (by simp) ?_
                  refine AllReadyH.cons rfl (fun K hK => ?_) AllReadyH.nil
                  go_simp
                  refine hK.out _ _ (HSS.out _ (HBW.out.trans (((Below.refl _ _).alloc (Nat.le_refl _) _).mono HBW.out.size))) (fun hHeld => ?_)
                  clear hK K
                  try simp only [Act.put, List.setIfInBounds_toArray, List.set_cons_zero, List.set_cons_succ]
                  refine wpAnyH_ready (rs := [10]) (by kernel_rfl) (by simp) ?_
                  refine AllReadyH.cons rfl (fun K hK => ?_) AllReadyH.nil
                  go_simp
                  refine hK.out _ _ (HSS.out _ HNB.out.nw.bel) (fun hHeld => ?_)
                  clear hK K
                  try simp only [Act.put, List.setIfInBounds_toArray, List.set_cons_zero, List.set_cons_succ]
                  refine wpAnyH_take (i := 11) (v := ?_) rfl (by kernel_rfl) (by kernel_rfl) (by kernel_rfl) (fun _ _ _ h => h) (Or.inl ⟨by rfl, ?_⟩) (by assumption) ?_
                  rotate_left
                  · intro w hSw
                    try dsimp only at hSw
                    go_simp
                    try with_reducible rfl
                  try simp only [Act.put, List.setIfInBounds_toArray, List.set_cons_zero, List.set_cons_succ]
                  refine wpAnyH_done (by kernel_rfl) ?_ _
                  refine NoPanic.normal ?_
                  go_wp2_with fail
                  go_meet
                  case rel => exact ⟨_, _, _, _, _, _, _, rfl, rfl, HNB.out⟩
                refine AllReadyH.cons rfl (fun K hK => ?_) AllReadyH.nil
                · go_simp
                  refine hK.out _ _ (HSS.out _ ((Gn.below_drew (Below.refl _ _)).trans (((Below.refl _ _).alloc (Nat.le_refl _) _).mono (Nat.le_refl _)))) (fun hHeld => ?_)
                  clear hK K
                  try simp only [Act.put, List.setIfInBounds_toArray, List.set_cons_zero, List.set_cons_succ]
                  refine wpAnyH_ready (rs := [5]) (by kernel_rfl) (by simp) ?_
                  refine AllReadyH.cons rfl (fun K hK => ?_) AllReadyH.nil
                  go_simp
                  go_at_call 7
                  refine (HDN5.out _ ((Gn.below_drew (Below.refl _ _)).trans (((Below.refl _ _).alloc (Nat.le_refl _) _).mono (Nat.le_refl _)))).mono ?_
                  rintro e w3 ⟨v3, rfl, hr3, hb3⟩
                  obtain ⟨A5, c5, A6, c6, rfl, _, _⟩ := hr3.form
                  obtain ⟨n5, hn5⟩ : ∃ n5, n5 = (rolOf R).ms.length := ⟨_, rfl⟩
                  obtain ⟨n6, hn6⟩ : ∃ n6, n6 = (rolOf R).cs.length := ⟨_, rfl⟩
                  rw [← hn5, ← hn6] at hr3 ⊢
                  have HBB := Lib.hid hb3
                  have hq := (HBB.out.block w5.heap.size (by simp)).trans (heap_alloc_new w5.drew _)
                  have q0 := cell_of_row _ _ 0 _ _ (0, 0) hq
                  have q1 := cell_of_row _ _ 1 _ _ (0, 0) hq
                  have f0 := Gn.frozen_row hq 0
                  have f1 := Gn.frozen_row hq 1
                  have HNB := Lib.hid (show NewRl w5 ((w3.setCell ⟨w5.heap.size, 0, none⟩ (.slice A5 n5 c5)).setCell ⟨w5.heap.size, 1, none⟩ (.slice A6 n6 c6)) w5.heap.size 31 (rolOf R) (.slice A5 n5 c5) (.slice A6 n6 c6) from (NewRl.early hr3 HBB.out hq).drew)
                  have HBW := Lib.hid (((Gn.below_drew (Below.refl _ _)).trans (((Below.refl _ _).alloc (Nat.le_refl _) _).mono (Nat.le_refl _))).trans (hb3.mono (by simp)))
                  clear hb3 hr3 hq hn5 hn6
                  refine hK.out _ _ (HSS.out _ HBW.out) (fun hHeld => ?_)
                  clear hK K
                  try simp only [Act.put, List.setIfInBounds_toArray, List.set_cons_zero, List.set_cons_succ]
                  refine wpAnyH_take (i := 6) (v := ?_) rfl (by kernel_rfl) (by kernel_rfl) (by kernel_rfl) (fun _ _ _ h => h) (Or.inl ⟨by rfl, ?_⟩) (by assumption) ?_
                  rotate_left
                  · intro w hSw
                    try dsimp only at hSw
                    go_simp
                    try with_reducible rfl
                  try simp only [Act.put, List.setIfInBounds_toArray, List.set_cons_zero, List.set_cons_succ]
                  refine wpAnyH_take (i := 7) (v := ?_) rfl (by kernel_rfl) (by kernel_rfl) (by kernel_rfl) (fun _ _ _ h => h) (Or.inl ⟨by rfl, ?_⟩) (by assumption) ?_
                  rotate_left
                  · intro w hSw
                    try dsimp only at hSw
                    go_simp
                    try with_reducible rfl
                  try simp only [Act.put, List.setIfInBounds_toArray, List.set_cons_zero, List.set_cons_succ]
                  refine wpAnyH_take (i := 8) (v := ?_) rfl (by kernel_rfl) (by kernel_rfl) (by kernel_rfl) (fun _ _ _ h => h) (Or.inl ⟨by rfl, ?_⟩) (by assumption) ?_
                  rotate_left
                  · intro w hSw
                    try dsimp only at hSw
                    go_simp
                    try with_reducible rfl
                  try simp only [Act.put, List.setIfInBounds_toArray, List.set_cons_zero, List.set_cons_succ]
                  refine wpAnyH_ready (rs := [10]) (by kernel_rfl) (by simp) ?_
                  refine AllReadyH.cons rfl (fun K hK => ?_) AllReadyH.nil
                  go_simp
                  refine hK.out _ _ (HSS.out _ HNB.out.nw.bel) (fun hHeld => ?_)
                  clear hK K
                  try simp only [Act.put, List.setIfInBounds_toArray, List.set_cons_zero, List.set_cons_succ]
                  refine wpAnyH_take (i := 11) (v := ?_) rfl (by kernel_rfl) (by kernel_rfl) (by kernel_rfl) (fun _ _ _ h => h) (Or.inl ⟨by rfl, ?_⟩) (by assumption) ?_
                  rotate_left
                  · intro w hSw
                    try dsimp only at hSw
                    go_simp
                    try with_reducible rfl
                  try simp only [Act.put, List.setIfInBounds_toArray, List.set_cons_zero, List.set_cons_succ]
                  refine wpAnyH_done (by kernel_rfl) ?_ _
                  refine NoPanic.normal ?_
                  go_wp2_with fail
                  go_meet
                  case rel => exact ⟨_, _, _, _, _, _, _, rfl, rfl, HNB.out⟩
            case rest =>
              obtain ⟨q2, A7, n7, c7, A8, n8, c8, rfl, rfl, hbox⟩ := hcut
              have HK7 := Lib.hid (HK2.out.under hbox.nw.bel)
              have HQ3 := Lib.hid (Nat.lt_of_lt_of_le (Gn.heap_lt HX5.out) hbox.nw.hi)
              have HX7 := Lib.hid ((hbox.nw.bel.block _ (Gn.heap_lt HX5.out)).trans HX5.out)
              have HY7 := Lib.hid hbox.nw.box
              have HX17 := Lib.hid (HX1.out.under hbox.nw.bel)
              have HY17 := Lib.hid (show RlAt (fun b => C < b) wc (rolOf R) (.agg #[.slice A7 n7 c7, .slice A8 n8 c8]) from hbox.rl.keep (Nat.le_refl _) fun b hb _ => ⟨Nat.lt_of_lt_of_le (Gn.heap_lt HK2.out.bz) hb, fun _ => rfl⟩)
              clear hbox HSS HDN5 HK2 HX5 HX1
              rename World => w7
              have HSA := Lib.hid (fun (w : World) (b : Below w7.heap.size w7 w) => same_of HIV.out HOV.out (by omega) _ _ w _ _ (HX17.out.under b) (HY17.out.under b))
              have HSB := Lib.hid (fun (w : World) (b : Below w7.heap.size w7 w) => same_of HIN.out HOK.out (by omega) _ _ w _ _ (HK7.out.under b).rl (HK7.out.under b).rd)
              have hcc : ((codeOf R : Int) != (codeOf R : Int)) = false := by simp
              obtain ⟨b0, b1, b2, b3⟩ := HK7.out.cells
              have t0 := cell_of_row _ _ 0 _ _ (0, 0) HX7.out
              have t1 := cell_of_row _ _ 1 _ _ (0, 0) HX7.out
              have t2 := cell_of_row _ _ 0 _ _ (0, 0) HY7.out
              have t3 := cell_of_row _ _ 1 _ _ (0, 0) HY7.out
              go_wp2_with fail
              refine (HSA.out _ (Below.refl _ _)).mono ?_
              rintro e w8 ⟨rfl, hb8⟩
              clear b0 b1 b2 b3 t0 t1 t2 t3
              have HB8 := Lib.hid hb8
              obtain ⟨b0, b1, b2, b3⟩ := (HK7.out.under HB8.out).cells
              clear hb8
              go_wp2_with fail
              refine (HSB.out _ HB8.out).mono ?_
              rintro e w9 ⟨rfl, hb9⟩
              clear b0 b1 b2 b3
              have HB9 := Lib.hid (HB8.out.trans (hb9.mono HB8.out.size))
              clear hb9 HB8
              have HK9 := Lib.hid (HK7.out.under HB9.out)
              go_upto_if 73 with fail
              go_cut [] from 24 to 75 (fun wx => ∃ (r : Rol) (vm vc wm wc : Value), Inv (k + 1) r ∧ Ok r ∧ TwoAt W B C wx r vm vc wm wc)
              case first =>
                by_cases hcode : codeOf R = 0
                · have hc0 : ((codeOf R : Nat) : Int) = 0 := by omega
                  go_upto_region 15 with fail
                  have hx9 := (HB9.out.block _ (Gn.heap_lt HX7.out)).trans HX7.out
                  have hy9 := (HB9.out.block _ (Gn.heap_lt HY7.out)).trans HY7.out
                  have t0 := cell_of_row _ _ 0 _ _ (0, 0) hx9
                  have t1 := cell_of_row _ _ 1 _ _ (0, 0) hx9
                  have t2 := cell_of_row _ _ 0 _ _ (0, 0) hy9
                  have t3 := cell_of_row _ _ 1 _ _ (0, 0) hy9
                  have f0 := Gn.frozen_row HK9.out.bx 0
                  have f1 := Gn.frozen_row HK9.out.bx 1
                  have f2 := Gn.frozen_row HK9.out.bz 0
                  have f3 := Gn.frozen_row HK9.out.bz 1
                  obtain ⟨b0, b1, b2, b3⟩ := HK9.out.cells
                  have hne1 : B ≠ C := by have := HK9.out.ne; omega
                  have hne2 : C ≠ B := by have := HK9.out.ne; omega
                  have hne3 : B ≠ q := by have := HK9.out.ne; have := HQ2.out; omega
                  have hne4 : C ≠ q := by have := HQ2.out; omega
                  have hne5 : B ≠ q2 := by have := HK9.out.ne; have := HQ2.out; have := HQ3.out; omega
                  have hne6 : C ≠ q2 := by have := HQ2.out; have := HQ3.out; omega
                  have HNX := Lib.hid (fun (w : World) (hw : _ ∨ _) => HK9.out.next (HX17.out.under HB9.out) (HY17.out.under HB9.out) (w9 := w) hw)
                  clear hx9 hy9
                  go_region
                  all_goals
                    go_wp2_with fail
                    go_meet
                    case rel => exact ⟨rolOf R, _, _, _, _, HIV.out, HOV.out, (HNX.out _ (by first | exact Or.inl rfl | exact Or.inr rfl)).under (Gn.below_drew (Below.refl _ _))⟩
                · have hc0 : ¬ ((codeOf R : Nat) : Int) = 0 := by omega
                  go_wp2_with fail
                  go_meet
                  case rel => exact ⟨r, _, _, _, _, HIN.out.mono (Nat.le_succ _), HOK.out, HK9.out⟩
              case rest =>
                as_aux_lemma =>
                  clear HK7 HX7 HY7 HX17 HY17 HSA HSB HB9 HK9 HIN HOK HIV HOV HQ2 HQ3 hcc HSP HL HLO HH0 HC HKP HV HB HCC
                  obtain ⟨r, vm, vc, wm, wd, hinv, hok, htw⟩ := hcut
                  have HIN := Lib.hid hinv
                  have HOK := Lib.hid hok
                  have HK2 := Lib.hid htw
                  clear hinv hok htw
                  rename World => w10
                  obtain ⟨A1, c1, A2, c2, rfl, rfl⟩ := form2 HK2.out.rl
                  obtain ⟨A3, c3, A4, c4, rfl, rfl⟩ := form2 HK2.out.rd
                  have HMS := Lib.hid (show r.ms.length ≤ 60 by have := HIN.out.lm; omega)
                  have HCS := Lib.hid (show r.cs.length ≤ 60 by have := HIN.out.lc; omega)
                  have HSZ := Lib.hid (ok_size HIN.out HOK.out (by omega))
                  have HPT := Lib.hid (ok_put HIN.out HOK.out (by omega))
                  have HBK := Lib.hid (ok_back HIN.out HOK.out (by omega))
                  obtain ⟨sP, hsP⟩ : ∃ sP, sP = mkS (qPut r) := ⟨_, rfl⟩
                  have hs9 : sP.size ≤ 9223372036854775807 := by
                    have h1 := HSZ.out
                    have h2 : sP.size = (qPut r).length := by rw [hsP]; rfl
                    unfold BIG at h1
                    omega
                  have HPU := Lib.hid (fun (w : World) (hw : TwoAt W B C w r (.slice A1 r.ms.length c1) (.slice A2 r.cs.length c2) (.slice A3 r.ms.length c3) (.slice A4 r.cs.length c4)) => show Calls Tryz.prog 9 #[.agg #[.slice A1 r.ms.length c1, .slice A2 r.cs.length c2]] w (fun e w' => e = .returned (.string sP) ∧ Below w.heap.size w w') from by
                    have h1 := put_any r _ w _ hw.rl (by have := HMS.out; omega) (by have := HCS.out; omega)
                    rw [HPT.out] at h1
                    rw [hsP]
                    exact h1)
                  have HRP := Lib.hid (fun (w : World) (hw : TwoAt W B C w r (.slice A1 r.ms.length c1) (.slice A2 r.cs.length c2) (.slice A3 r.ms.length c3) (.slice A4 r.cs.length c4)) => show Calls Tryz.prog 11 #[.agg #[.slice A3 r.ms.length c3, .slice A4 r.cs.length c4]] w (fun e w' => e = .returned (.string sP) ∧ Below w.heap.size w w') from by
                    rw [hsP]
                    exact refput_any r HSZ.out (by have := HMS.out; omega) (by have := HCS.out; omega) (fun c hc => by have := HIN.out.ls c hc; omega) _ w _ hw.rd)
                  have HGE := Lib.hid (fun (w : World) => show Calls Tryz.prog 10 #[.string sP] w (fun e w' => ∃ v, e = .returned (.tuple #[v, .int .i64 0]) ∧ RlAt (fun b => w.heap.size ≤ b) w' r v ∧ Below w.heap.size w w') from by
                    have h1 := get_any sP hs9 w
                    rw [show getR (Oct.bs sP) = .ok r by rw [hsP]; exact HBK.out] at h1
                    exact h1)
                  have HME := Lib.hid (fun (w : World) (hw : TwoAt W B C w r (.slice A1 r.ms.length c1) (.slice A2 r.cs.length c2) (.slice A3 r.ms.length c3) (.slice A4 r.cs.length c4)) => Member_any r da _ w _ hw.rl HIN.out.names (by have := HMS.out; omega))
                  have HFI := Lib.hid (fun (w : World) (hw : TwoAt W B C w r (.slice A1 r.ms.length c1) (.slice A2 r.cs.length c2) (.slice A3 r.ms.length c3) (.slice A4 r.cs.length c4)) => find2_any r da HIN.out.names (by have := HMS.out; omega) _ w _ hw.rd)
                  have HCL := Lib.hid (fun (w : World) (hw : TwoAt W B C w r (.slice A1 r.ms.length c1) (.slice A2 r.cs.length c2) (.slice A3 r.ms.length c3) (.slice A4 r.cs.length c4)) => Class_any r da _ w _ hw.rl HIN.out.classes (by have := HCS.out; omega) (fun c hc => by have := HIN.out.ls c hc; omega))
                  have HOF := Lib.hid (fun (w : World) (hw : TwoAt W B C w r (.slice A1 r.ms.length c1) (.slice A2 r.cs.length c2) (.slice A3 r.ms.length c3) (.slice A4 r.cs.length c4)) => of_any r da _ w _ hw.rd HIN.out.classes (by have := HCS.out; omega))
                  have HTE := Lib.hid (fun (w : World) (hw : TwoAt W B C w r (.slice A1 r.ms.length c1) (.slice A2 r.cs.length c2) (.slice A3 r.ms.length c3) (.slice A4 r.cs.length c4)) => teaches_any r da db (HIN.out.sized (by omega)) _ w _ hw.rl)
                  obtain ⟨n1, hn1⟩ : ∃ n1, n1 = r.ms.length := ⟨_, rfl⟩
                  obtain ⟨n2, hn2⟩ : ∃ n2, n2 = r.cs.length := ⟨_, rfl⟩
                  rw [← hn1, ← hn2] at HK2 HPU HRP HME HFI HCL HOF HTE
                  have hn60 : n2 ≤ 60 := by rw [hn2]; exact HCS.out
                  have HN2 := Lib.hid hn2
                  clear hn1 hn2 HSZ HPT HBK hsP hs9
                  obtain ⟨b0, b1, b2, b3⟩ := HK2.out.cells
                  go_wp2_with fail
                  refine (HPU.out _ HK2.out).mono ?_
                  rintro e w11 ⟨rfl, hb11⟩
                  clear b0 b1 b2 b3
                  have HK3 := Lib.hid (HK2.out.under hb11)
                  clear hb11 HK2 HPU
                  have HK2 := HK3
                  clear HK3
                  go_wp2_with fail
                  refine (HGE.out w11).mono ?_
                  rintro e w3 ⟨v3, rfl, hr3, hb3⟩
                  obtain ⟨A5, c5, A6, c6, rfl, _, _⟩ := hr3.form
                  obtain ⟨n5, hn5⟩ : ∃ n5, n5 = r.ms.length := ⟨_, rfl⟩
                  obtain ⟨n6, hn6⟩ : ∃ n6, n6 = r.cs.length := ⟨_, rfl⟩
                  rw [← hn5, ← hn6] at hr3 ⊢
                  have hbox : NewRl w11 (w3.alloc (.cells #[.slice A5 n5 c5, .slice A6 n6 c6] 27)) w3.heap.size 27 r (.slice A5 n5 c5) (.slice A6 n6 c6) := NewRl.late hr3 hb3
                  obtain ⟨w12, hw12⟩ : ∃ w12, w12 = w3.alloc (.cells #[.slice A5 n5 c5, .slice A6 n6 c6] 27) := ⟨_, rfl⟩
                  rw [← hw12] at hbox
                  have HBX := Lib.hid hbox
                  have HW12 := Lib.hid hw12
                  clear hbox hw12 hr3 hb3 hn5 hn6
                  go_upto_region 18 with fail
                  rw [← HW12.out]
                  obtain ⟨q, hq⟩ : ∃ q, q = w3.heap.size := ⟨_, rfl⟩
                  rw [← hq] at HBX ⊢
                  clear HW12 hq
                  have hbox := HBX.out
                  clear HBX
                  have HX5 := Lib.hid hbox.nw.box
                  have HX15 := Lib.hid hbox.rl
                  have HK3 := Lib.hid (HK2.out.under hbox.nw.bel)
                  clear hbox HGE HK2
                  have HK2 := HK3
                  clear HK3
                  have HSC := Lib.hid (fun (w : World) (b : Below w12.heap.size w12 w) => same_of HIN.out HOK.out (by omega) _ _ w _ _ (HX15.out.under b) (HK2.out.under b).rd)
                  obtain ⟨b0, b1, b2, b3⟩ := HK2.out.cells
                  have t0 := cell_of_row _ _ 0 _ _ (0, 0) HX5.out
                  have t1 := cell_of_row _ _ 1 _ _ (0, 0) HX5.out
                  go_wp2_with fail
                  refine (HRP.out _ HK2.out).mono ?_
                  rintro e w13 ⟨rfl, hb13⟩
                  clear b0 b1 b2 b3 t0 t1
                  have HB13 := Lib.hid hb13
                  clear hb13
                  obtain ⟨b0, b1, b2, b3⟩ := (HK2.out.under HB13.out).cells
                  have hx13 := (HB13.out.block _ (Gn.heap_lt HX5.out)).trans HX5.out
                  have t0 := cell_of_row _ _ 0 _ _ (0, 0) hx13
                  have t1 := cell_of_row _ _ 1 _ _ (0, 0) hx13
                  clear hx13
                  go_wp2_with fail
                  refine (HSC.out _ HB13.out).mono ?_
                  rintro e w14 ⟨rfl, hb14⟩
                  clear b0 b1 b2 b3 t0 t1
                  have HK3 := Lib.hid ((HK2.out.under HB13.out).under hb14)
                  clear hb14 HB13 HK2 HSC HX5 HX15 HRP
                  have HK2 := HK3
                  clear HK3
                  go_upto_region 20 with fail
                  obtain ⟨mm, hmm⟩ : ∃ mm, mm = findM r da := ⟨_, rfl⟩
                  obtain ⟨fd, hfd⟩ : ∃ fd, fd = hasN r.names da := ⟨_, rfl⟩
                  rw [← hmm, ← hfd] at HME HFI
                  clear hmm hfd
                  obtain ⟨mn, mr, mq⟩ := mm
                  dsimp only at HME HFI
                  obtain ⟨cx, hcx⟩ : ∃ cx, cx = findC r da := ⟨_, rfl⟩
                  obtain ⟨cb, hcb⟩ : ∃ cb, cb = hasN r.classes da := ⟨_, rfl⟩
                  rw [← hcx, ← hcb] at HCL
                  have HCX := Lib.hid hcx
                  have HCB := Lib.hid hcb
                  clear hcx hcb
                  obtain ⟨cn, ct, cs⟩ := cx
                  dsimp only at HCL
                  obtain ⟨sl, hsl⟩ : ∃ sl, sl = cs.length := ⟨_, rfl⟩
                  rw [← hsl] at HCL
                  have HSL := Lib.hid hsl
                  clear hsl
                  have HME2 := Lib.hid (fun (w : World) (b : Below w14.heap.size w14 w) => HME.out w (HK2.out.under b))
                  have HSS := Lib.hid (fun (w' : World) (b : Below w14.heap.size w14 w') => show (fun w' : World => w'.cell? ⟨B, 0, none⟩ = some (.slice A1 n1 c1) ∧ w'.cell? ⟨B, 1, none⟩ = some (.slice A2 n2 c2) ∧ w'.cell? ⟨C, 0, none⟩ = some (.slice A3 n1 c3) ∧ w'.cell? ⟨C, 1, none⟩ = some (.slice A4 n2 c4) ∧ w'.cell? ⟨bk, off + k * 4, none⟩ = some (.int .i64 dw) ∧ w'.cell? ⟨bk, off + k * 4 + 1, none⟩ = some (.string da) ∧ w'.cell? ⟨bk, off + k * 4 + 2, none⟩ = some (.string db) ∧ w'.cell? ⟨bk, off + k * 4 + 3, none⟩ = some (.int .i64 dn)) w' from by
                    obtain ⟨z1, z2, z3, z4⟩ := (HK2.out.under b).cells
                    exact ⟨z1, z2, z3, z4, HQ.out w' (HK2.out.under b).bel⟩)
                  go_cut [13, 14] from 97 to 106 (fun sa sb wx => ∃ (q : Nat), sa = .pointer (some ⟨q, 0, none⟩) ∧ sb = .bool fd ∧ NewAt w14 wx q 45 #[.string mn, .int .i64 mr, .int .i64 mq])
                  case first =>
                    as_aux_lemma =>
                      refine wp_region_noPanic ?_
                      refine wp_region_held_drew (S := (fun w' : World => w'.cell? ⟨B, 0, none⟩ = some (.slice A1 n1 c1) ∧ w'.cell? ⟨B, 1, none⟩ = some (.slice A2 n2 c2) ∧ w'.cell? ⟨C, 0, none⟩ = some (.slice A3 n1 c3) ∧ w'.cell? ⟨C, 1, none⟩ = some (.slice A4 n2 c4) ∧ w'.cell? ⟨bk, off + k * 4, none⟩ = some (.int .i64 dw) ∧ w'.cell? ⟨bk, off + k * 4 + 1, none⟩ = some (.string da) ∧ w'.cell? ⟨bk, off + k * 4 + 2, none⟩ = some (.string db) ∧ w'.cell? ⟨bk, off + k * 4 + 3, none⟩ = some (.int .i64 dn))) (by kernel_rfl) ?_ (fun hHeld => ?_)
                      · exact HSS.out _ (Gn.below_drew (Below.refl _ _))
                      refine wpAnyH_take (i := 0) (v := ?_) rfl (by kernel_rfl) (by kernel_rfl) (by kernel_rfl) (fun _ _ _ h => h) (Or.inl ⟨by rfl, ?_⟩) (by assumption) ?_
                      rotate_left
                      · intro w hSw
                        try dsimp only at hSw
                        go_simp
                        try with_reducible rfl
                      try simp only [Act.put, List.setIfInBounds_toArray, List.set_cons_zero, List.set_cons_succ]
                      refine wpAnyH_take (i := 1) (v := ?_) rfl (by kernel_rfl) (by kernel_rfl) (by kernel_rfl) (fun _ _ _ h => h) (Or.inl ⟨by rfl, ?_⟩) (by assumption) ?_
                      rotate_left
                      · intro w hSw
                        try dsimp only at hSw
                        go_simp
                        try with_reducible rfl
                      try simp only [Act.put, List.setIfInBounds_toArray, List.set_cons_zero, List.set_cons_succ]
                      refine wpAnyH_take (i := 2) (v := ?_) rfl (by kernel_rfl) (by kernel_rfl) (by kernel_rfl) (fun _ _ _ h => h) (Or.inl ⟨by rfl, ?_⟩) (by assumption) ?_
                      rotate_left
                      · intro w hSw
                        try dsimp only at hSw
                        go_simp
                        try with_reducible rfl
                      try simp only [Act.put, List.setIfInBounds_toArray, List.set_cons_zero, List.set_cons_succ]
                      refine wpAnyH_take (i := 3) (v := ?_) rfl (by kernel_rfl) (by kernel_rfl) (by kernel_rfl) (fun _ _ _ h => h) (Or.inl ⟨by rfl, ?_⟩) (by assumption) ?_
                      rotate_left
                      · intro w hSw
                        try dsimp only at hSw
                        go_simp
                        try with_reducible rfl
                      try simp only [Act.put, List.setIfInBounds_toArray, List.set_cons_zero, List.set_cons_succ]
                      refine wpAnyH_take (i := 4) (v := ?_) rfl (by kernel_rfl) (by kernel_rfl) (by kernel_rfl) (fun _ _ _ h => h) (Or.inl ⟨by rfl, ?_⟩) (by assumption) ?_
                      rotate_left
                      · intro w hSw
                        try dsimp only at hSw
                        go_simp
                        try with_reducible rfl
                      try simp only [Act.put, List.setIfInBounds_toArray, List.set_cons_zero, List.set_cons_succ]
                      refine wpAnyH_take (i := 5) (v := ?_) rfl (by kernel_rfl) (by kernel_rfl) (by kernel_rfl) (fun _ _ _ h => h) (Or.inl ⟨by rfl, ?_⟩) (by assumption) ?_
                      rotate_left
                      · intro w hSw
                        try dsimp only at hSw
                        go_simp
                        try with_reducible rfl
                      try simp only [Act.put, List.setIfInBounds_toArray, List.set_cons_zero, List.set_cons_succ]
                      refine wpAnyH_ready (rs := [6, 10]) (by kernel_rfl) (by simp) ?_
                      refine AllReadyH.cons rfl (fun K hK => ?_) ?_
                      · go_simp
                        go_at_call 12
                        refine (HME2.out _ (Gn.below_drew (Below.refl _ _))).mono ?_
                        rintro e w3 ⟨rfl, hb3⟩
                        have HBB := Lib.hid hb3
                        have HNB := Lib.hid (show NewAt w14 (w3.alloc (.cells #[.string mn, .int .i64 mr, .int .i64 mq] 45)) w3.heap.size 45 #[.string mn, .int .i64 mr, .int .i64 mq] from (NewAt.late _ hb3).drew)
                        have HBW := Lib.hid ((Gn.below_drew (Below.refl _ _)).trans (hb3.mono (Nat.le_refl _)))
                        clear hb3
                        refine hK.out _ _ (HSS.out _ HBW.out) (fun hHeld => ?_)
                        clear hK K
                        try simp only [Act.put, List.setIfInBounds_toArray, List.set_cons_zero, List.set_cons_succ]
                        refine wpAnyH_take (i := 7) (v := ?_) rfl (by kernel_rfl) (by kernel_rfl) (by kernel_rfl) (fun _ _ _ h => h) (Or.inl ⟨by rfl, ?_⟩) (by assumption) ?_
                        rotate_left
                        · intro w hSw
                          try dsimp only at hSw
                          go_simp
                          try with_reducible rfl
                        try simp only [Act.put, List.setIfInBounds_toArray, List.set_cons_zero, List.set_cons_succ]
                        refine wpAnyH_take (i := 8) (v := ?_) rfl (by kernel_rfl) (by kernel_rfl) (by kernel_rfl) (fun _ _ _ h => h) (Or.inl ⟨by rfl, ?_⟩) (by assumption) ?_
                        rotate_left
                        · intro w hSw
                          try dsimp only at hSw
                          go_simp
                          try with_reducible rfl
                        try simp only [Act.put, List.setIfInBounds_toArray, List.set_cons_zero, List.set_cons_succ]
                        refine wpAnyH_take (i := 9) (v := ?_) rfl (by kernel_rfl) (by kernel_rfl) (by kernel_rfl) (fun _ _ _ h => h) (Or.inl ⟨by rfl, ?_⟩) (by assumption) ?_
                        rotate_left
                        · intro w hSw
                          try dsimp only at hSw
                          go_simp
                          try with_reducible rfl
                        try simp only [Act.put, List.setIfInBounds_toArray, List.set_cons_zero, List.set_cons_succ]
                        refine wpAnyH_ready (rs := [10]) (by kernel_rfl) (by simp) ?_
                        refine AllReadyH.cons rfl (fun K hK => ?_) AllReadyH.nil
                        go_simp
                        refine hK.out _ _ (HSS.out _ (HBW.out.trans (((Below.refl _ _).alloc (Nat.le_refl _) _).mono HBW.out.size))) (fun hHeld => ?_)
                        clear hK K
                        try simp only [Act.put, List.setIfInBounds_toArray, List.set_cons_zero, List.set_cons_succ]
                        refine wpAnyH_ready (rs := [11]) (by kernel_rfl) (by simp) ?_
                        refine AllReadyH.cons rfl (fun K hK => ?_) AllReadyH.nil
                        go_simp
                        refine hK.out _ _ (HSS.out _ HNB.out.bel) (fun hHeld => ?_)
                        clear hK K
                        try simp only [Act.put, List.setIfInBounds_toArray, List.set_cons_zero, List.set_cons_succ]
                        refine wpAnyH_take (i := 12) (v := ?_) rfl (by kernel_rfl) (by kernel_rfl) (by kernel_rfl) (fun _ _ _ h => h) (Or.inl ⟨by rfl, ?_⟩) (by assumption) ?_
                        rotate_left
                        · intro w hSw
                          try dsimp only at hSw
                          go_simp
                          try with_reducible rfl
                        try simp only [Act.put, List.setIfInBounds_toArray, List.set_cons_zero, List.set_cons_succ]
                        refine wpAnyH_done (by kernel_rfl) ?_ _
                        refine NoPanic.normal ?_
                        go_wp2_with fail
                        go_meet
                        case rel => exact ⟨_, rfl, rfl, HNB.out⟩
                      refine AllReadyH.cons rfl (fun K hK => ?_) AllReadyH.nil
                      · go_simp
                        refine hK.out _ _ (HSS.out _ ((Gn.below_drew (Below.refl _ _)).trans (((Below.refl _ _).alloc (Nat.le_refl _) _).mono (Nat.le_refl _)))) (fun hHeld => ?_)
                        clear hK K
                        try simp only [Act.put, List.setIfInBounds_toArray, List.set_cons_zero, List.set_cons_succ]
                        refine wpAnyH_ready (rs := [6]) (by kernel_rfl) (by simp) ?_
                        refine AllReadyH.cons rfl (fun K hK => ?_) AllReadyH.nil
                        go_simp
                        go_at_call 12
                        refine (HME2.out _ ((Gn.below_drew (Below.refl _ _)).trans (((Below.refl _ _).alloc (Nat.le_refl _) _).mono (Nat.le_refl _)))).mono ?_
                        rintro e w3 ⟨rfl, hb3⟩
                        have HBB := Lib.hid hb3
                        have hq := (HBB.out.block w14.heap.size (by simp)).trans (heap_alloc_new w14.drew _)
                        have q0 := cell_of_row _ _ 0 _ _ (0, 0) hq
                        have q1 := cell_of_row _ _ 1 _ _ (0, 0) hq
                        have q2 := cell_of_row _ _ 2 _ _ (0, 0) hq
                        have f0 := Gn.frozen_row hq 0
                        have f1 := Gn.frozen_row hq 1
                        have f2 := Gn.frozen_row hq 2
                        have HNB := Lib.hid (show NewAt w14 (((w3.setCell ⟨w14.heap.size, 0, none⟩ (.string mn)).setCell ⟨w14.heap.size, 1, none⟩ (.int .i64 mr)).setCell ⟨w14.heap.size, 2, none⟩ (.int .i64 mq)) w14.heap.size 45 #[.string mn, .int .i64 mr, .int .i64 mq] from (NewAt.early3 _ _ _ HBB.out hq).drew)
                        clear hq
                        have HBW := Lib.hid (((Gn.below_drew (Below.refl _ _)).trans (((Below.refl _ _).alloc (Nat.le_refl _) _).mono (Nat.le_refl _))).trans (hb3.mono (by simp)))
                        clear hb3
                        refine hK.out _ _ (HSS.out _ HBW.out) (fun hHeld => ?_)
                        clear hK K
                        try simp only [Act.put, List.setIfInBounds_toArray, List.set_cons_zero, List.set_cons_succ]
                        refine wpAnyH_take (i := 7) (v := ?_) rfl (by kernel_rfl) (by kernel_rfl) (by kernel_rfl) (fun _ _ _ h => h) (Or.inl ⟨by rfl, ?_⟩) (by assumption) ?_
                        rotate_left
                        · intro w hSw
                          try dsimp only at hSw
                          go_simp
                          try with_reducible rfl
                        try simp only [Act.put, List.setIfInBounds_toArray, List.set_cons_zero, List.set_cons_succ]
                        refine wpAnyH_take (i := 8) (v := ?_) rfl (by kernel_rfl) (by kernel_rfl) (by kernel_rfl) (fun _ _ _ h => h) (Or.inl ⟨by rfl, ?_⟩) (by assumption) ?_
                        rotate_left
                        · intro w hSw
                          try dsimp only at hSw
                          go_simp
                          try with_reducible rfl
                        try simp only [Act.put, List.setIfInBounds_toArray, List.set_cons_zero, List.set_cons_succ]
                        refine wpAnyH_take (i := 9) (v := ?_) rfl (by kernel_rfl) (by kernel_rfl) (by kernel_rfl) (fun _ _ _ h => h) (Or.inl ⟨by rfl, ?_⟩) (by assumption) ?_
                        rotate_left
                        · intro w hSw
                          try dsimp only at hSw
                          go_simp
                          try with_reducible rfl
                        try simp only [Act.put, List.setIfInBounds_toArray, List.set_cons_zero, List.set_cons_succ]
                        refine wpAnyH_ready (rs := [11]) (by kernel_rfl) (by simp) ?_
                        refine AllReadyH.cons rfl (fun K hK => ?_) AllReadyH.nil
                        go_simp
                        refine hK.out _ _ (HSS.out _ HNB.out.bel) (fun hHeld => ?_)
                        clear hK K
                        try simp only [Act.put, List.setIfInBounds_toArray, List.set_cons_zero, List.set_cons_succ]
                        refine wpAnyH_take (i := 12) (v := ?_) rfl (by kernel_rfl) (by kernel_rfl) (by kernel_rfl) (fun _ _ _ h => h) (Or.inl ⟨by rfl, ?_⟩) (by assumption) ?_
                        rotate_left
                        · intro w hSw
                          try dsimp only at hSw
                          go_simp
                          try with_reducible rfl
                        try simp only [Act.put, List.setIfInBounds_toArray, List.set_cons_zero, List.set_cons_succ]
                        refine wpAnyH_done (by kernel_rfl) ?_ _
                        refine NoPanic.normal ?_
                        go_wp2_with fail
                        go_meet
                        case rel => exact ⟨_, rfl, rfl, HNB.out⟩
                  case rest =>
                    obtain ⟨qa, rfl, rfl, hbox⟩ := hcut
                    have HXA := Lib.hid hbox.box
                    have HK3 := Lib.hid (HK2.out.under hbox.bel)
                    clear hbox HSS HME HME2 HK2
                    have HK2 := HK3
                    clear HK3
                    rename World => w15
                    go_upto_region 21 with fail
                    have HFI2 := Lib.hid (fun (w : World) (b : Below w15.heap.size w15 w) => HFI.out w (HK2.out.under b))
                    have HSS := Lib.hid (fun (w' : World) (b : Below w15.heap.size w15 w') => show (fun w' : World => w'.cell? ⟨B, 0, none⟩ = some (.slice A1 n1 c1) ∧ w'.cell? ⟨B, 1, none⟩ = some (.slice A2 n2 c2) ∧ w'.cell? ⟨C, 0, none⟩ = some (.slice A3 n1 c3) ∧ w'.cell? ⟨C, 1, none⟩ = some (.slice A4 n2 c4) ∧ w'.cell? ⟨bk, off + k * 4, none⟩ = some (.int .i64 dw) ∧ w'.cell? ⟨bk, off + k * 4 + 1, none⟩ = some (.string da) ∧ w'.cell? ⟨bk, off + k * 4 + 2, none⟩ = some (.string db) ∧ w'.cell? ⟨bk, off + k * 4 + 3, none⟩ = some (.int .i64 dn)) w' from by
                      obtain ⟨z1, z2, z3, z4⟩ := (HK2.out.under b).cells
                      exact ⟨z1, z2, z3, z4, HQ.out w' (HK2.out.under b).bel⟩)
                    go_cut [15, 16] from 107 to 116 (fun sa sb wx => ∃ (q : Nat), sa = .pointer (some ⟨q, 0, none⟩) ∧ sb = .bool fd ∧ NewAt w15 wx q 48 #[.string mn, .int .i64 mr, .int .i64 mq])
                    case first =>
                      as_aux_lemma =>
                        refine wp_region_noPanic ?_
                        refine wp_region_held_drew (S := (fun w' : World => w'.cell? ⟨B, 0, none⟩ = some (.slice A1 n1 c1) ∧ w'.cell? ⟨B, 1, none⟩ = some (.slice A2 n2 c2) ∧ w'.cell? ⟨C, 0, none⟩ = some (.slice A3 n1 c3) ∧ w'.cell? ⟨C, 1, none⟩ = some (.slice A4 n2 c4) ∧ w'.cell? ⟨bk, off + k * 4, none⟩ = some (.int .i64 dw) ∧ w'.cell? ⟨bk, off + k * 4 + 1, none⟩ = some (.string da) ∧ w'.cell? ⟨bk, off + k * 4 + 2, none⟩ = some (.string db) ∧ w'.cell? ⟨bk, off + k * 4 + 3, none⟩ = some (.int .i64 dn))) (by kernel_rfl) ?_ (fun hHeld => ?_)
                        · exact HSS.out _ (Gn.below_drew (Below.refl _ _))
                        refine wpAnyH_take (i := 0) (v := ?_) rfl (by kernel_rfl) (by kernel_rfl) (by kernel_rfl) (fun _ _ _ h => h) (Or.inl ⟨by rfl, ?_⟩) (by assumption) ?_
                        rotate_left
                        · intro w hSw
                          try dsimp only at hSw
                          go_simp
                          try with_reducible rfl
                        try simp only [Act.put, List.setIfInBounds_toArray, List.set_cons_zero, List.set_cons_succ]
                        refine wpAnyH_take (i := 1) (v := ?_) rfl (by kernel_rfl) (by kernel_rfl) (by kernel_rfl) (fun _ _ _ h => h) (Or.inl ⟨by rfl, ?_⟩) (by assumption) ?_
                        rotate_left
                        · intro w hSw
                          try dsimp only at hSw
                          go_simp
                          try with_reducible rfl
                        try simp only [Act.put, List.setIfInBounds_toArray, List.set_cons_zero, List.set_cons_succ]
                        refine wpAnyH_take (i := 2) (v := ?_) rfl (by kernel_rfl) (by kernel_rfl) (by kernel_rfl) (fun _ _ _ h => h) (Or.inl ⟨by rfl, ?_⟩) (by assumption) ?_
                        rotate_left
                        · intro w hSw
                          try dsimp only at hSw
                          go_simp
                          try with_reducible rfl
                        try simp only [Act.put, List.setIfInBounds_toArray, List.set_cons_zero, List.set_cons_succ]
                        refine wpAnyH_take (i := 3) (v := ?_) rfl (by kernel_rfl) (by kernel_rfl) (by kernel_rfl) (fun _ _ _ h => h) (Or.inl ⟨by rfl, ?_⟩) (by assumption) ?_
                        rotate_left
                        · intro w hSw
                          try dsimp only at hSw
                          go_simp
                          try with_reducible rfl
                        try simp only [Act.put, List.setIfInBounds_toArray, List.set_cons_zero, List.set_cons_succ]
                        refine wpAnyH_take (i := 4) (v := ?_) rfl (by kernel_rfl) (by kernel_rfl) (by kernel_rfl) (fun _ _ _ h => h) (Or.inl ⟨by rfl, ?_⟩) (by assumption) ?_
                        rotate_left
                        · intro w hSw
                          try dsimp only at hSw
                          go_simp
                          try with_reducible rfl
                        try simp only [Act.put, List.setIfInBounds_toArray, List.set_cons_zero, List.set_cons_succ]
                        refine wpAnyH_take (i := 5) (v := ?_) rfl (by kernel_rfl) (by kernel_rfl) (by kernel_rfl) (fun _ _ _ h => h) (Or.inl ⟨by rfl, ?_⟩) (by assumption) ?_
                        rotate_left
                        · intro w hSw
                          try dsimp only at hSw
                          go_simp
                          try with_reducible rfl
                        try simp only [Act.put, List.setIfInBounds_toArray, List.set_cons_zero, List.set_cons_succ]
                        refine wpAnyH_ready (rs := [6, 10]) (by kernel_rfl) (by simp) ?_
                        refine AllReadyH.cons rfl (fun K hK => ?_) ?_
                        · go_simp
                          go_at_call 13
                          refine (HFI2.out _ (Gn.below_drew (Below.refl _ _))).mono ?_
                          rintro e w3 ⟨rfl, hb3⟩
                          have HBB := Lib.hid hb3
                          have HNB := Lib.hid (show NewAt w15 (w3.alloc (.cells #[.string mn, .int .i64 mr, .int .i64 mq] 48)) w3.heap.size 48 #[.string mn, .int .i64 mr, .int .i64 mq] from (NewAt.late _ hb3).drew)
                          have HBW := Lib.hid ((Gn.below_drew (Below.refl _ _)).trans (hb3.mono (Nat.le_refl _)))
                          clear hb3
                          refine hK.out _ _ (HSS.out _ HBW.out) (fun hHeld => ?_)
                          clear hK K
                          try simp only [Act.put, List.setIfInBounds_toArray, List.set_cons_zero, List.set_cons_succ]
                          refine wpAnyH_take (i := 7) (v := ?_) rfl (by kernel_rfl) (by kernel_rfl) (by kernel_rfl) (fun _ _ _ h => h) (Or.inl ⟨by rfl, ?_⟩) (by assumption) ?_
                          rotate_left
                          · intro w hSw
                            try dsimp only at hSw
                            go_simp
                            try with_reducible rfl
                          try simp only [Act.put, List.setIfInBounds_toArray, List.set_cons_zero, List.set_cons_succ]
                          refine wpAnyH_take (i := 8) (v := ?_) rfl (by kernel_rfl) (by kernel_rfl) (by kernel_rfl) (fun _ _ _ h => h) (Or.inl ⟨by rfl, ?_⟩) (by assumption) ?_
                          rotate_left
                          · intro w hSw
                            try dsimp only at hSw
                            go_simp
                            try with_reducible rfl
                          try simp only [Act.put, List.setIfInBounds_toArray, List.set_cons_zero, List.set_cons_succ]
                          refine wpAnyH_take (i := 9) (v := ?_) rfl (by kernel_rfl) (by kernel_rfl) (by kernel_rfl) (fun _ _ _ h => h) (Or.inl ⟨by rfl, ?_⟩) (by assumption) ?_
                          rotate_left
                          · intro w hSw
                            try dsimp only at hSw
                            go_simp
                            try with_reducible rfl
                          try simp only [Act.put, List.setIfInBounds_toArray, List.set_cons_zero, List.set_cons_succ]
                          refine wpAnyH_ready (rs := [10]) (by kernel_rfl) (by simp) ?_
                          refine AllReadyH.cons rfl (fun K hK => ?_) AllReadyH.nil
                          go_simp
                          refine hK.out _ _ (HSS.out _ (HBW.out.trans (((Below.refl _ _).alloc (Nat.le_refl _) _).mono HBW.out.size))) (fun hHeld => ?_)
                          clear hK K
                          try simp only [Act.put, List.setIfInBounds_toArray, List.set_cons_zero, List.set_cons_succ]
                          refine wpAnyH_ready (rs := [11]) (by kernel_rfl) (by simp) ?_
                          refine AllReadyH.cons rfl (fun K hK => ?_) AllReadyH.nil
                          go_simp
                          refine hK.out _ _ (HSS.out _ HNB.out.bel) (fun hHeld => ?_)
                          clear hK K
                          try simp only [Act.put, List.setIfInBounds_toArray, List.set_cons_zero, List.set_cons_succ]
                          refine wpAnyH_take (i := 12) (v := ?_) rfl (by kernel_rfl) (by kernel_rfl) (by kernel_rfl) (fun _ _ _ h => h) (Or.inl ⟨by rfl, ?_⟩) (by assumption) ?_
                          rotate_left
                          · intro w hSw
                            try dsimp only at hSw
                            go_simp
                            try with_reducible rfl
                          try simp only [Act.put, List.setIfInBounds_toArray, List.set_cons_zero, List.set_cons_succ]
                          refine wpAnyH_done (by kernel_rfl) ?_ _
                          refine NoPanic.normal ?_
                          go_wp2_with fail
                          go_meet
                          case rel => exact ⟨_, rfl, rfl, HNB.out⟩
                        refine AllReadyH.cons rfl (fun K hK => ?_) AllReadyH.nil
                        · go_simp
                          refine hK.out _ _ (HSS.out _ ((Gn.below_drew (Below.refl _ _)).trans (((Below.refl _ _).alloc (Nat.le_refl _) _).mono (Nat.le_refl _)))) (fun hHeld => ?_)
                          clear hK K
                          try simp only [Act.put, List.setIfInBounds_toArray, List.set_cons_zero, List.set_cons_succ]
                          refine wpAnyH_ready (rs := [6]) (by kernel_rfl) (by simp) ?_
                          refine AllReadyH.cons rfl (fun K hK => ?_) AllReadyH.nil
                          go_simp
                          go_at_call 13
                          refine (HFI2.out _ ((Gn.below_drew (Below.refl _ _)).trans (((Below.refl _ _).alloc (Nat.le_refl _) _).mono (Nat.le_refl _)))).mono ?_
                          rintro e w3 ⟨rfl, hb3⟩
                          have HBB := Lib.hid hb3
                          have hq := (HBB.out.block w15.heap.size (by simp)).trans (heap_alloc_new w15.drew _)
                          have q0 := cell_of_row _ _ 0 _ _ (0, 0) hq
                          have q1 := cell_of_row _ _ 1 _ _ (0, 0) hq
                          have q2 := cell_of_row _ _ 2 _ _ (0, 0) hq
                          have f0 := Gn.frozen_row hq 0
                          have f1 := Gn.frozen_row hq 1
                          have f2 := Gn.frozen_row hq 2
                          have HNB := Lib.hid (show NewAt w15 (((w3.setCell ⟨w15.heap.size, 0, none⟩ (.string mn)).setCell ⟨w15.heap.size, 1, none⟩ (.int .i64 mr)).setCell ⟨w15.heap.size, 2, none⟩ (.int .i64 mq)) w15.heap.size 48 #[.string mn, .int .i64 mr, .int .i64 mq] from (NewAt.early3 _ _ _ HBB.out hq).drew)
                          clear hq
                          have HBW := Lib.hid (((Gn.below_drew (Below.refl _ _)).trans (((Below.refl _ _).alloc (Nat.le_refl _) _).mono (Nat.le_refl _))).trans (hb3.mono (by simp)))
                          clear hb3
                          refine hK.out _ _ (HSS.out _ HBW.out) (fun hHeld => ?_)
                          clear hK K
                          try simp only [Act.put, List.setIfInBounds_toArray, List.set_cons_zero, List.set_cons_succ]
                          refine wpAnyH_take (i := 7) (v := ?_) rfl (by kernel_rfl) (by kernel_rfl) (by kernel_rfl) (fun _ _ _ h => h) (Or.inl ⟨by rfl, ?_⟩) (by assumption) ?_
                          rotate_left
                          · intro w hSw
                            try dsimp only at hSw
                            go_simp
                            try with_reducible rfl
                          try simp only [Act.put, List.setIfInBounds_toArray, List.set_cons_zero, List.set_cons_succ]
                          refine wpAnyH_take (i := 8) (v := ?_) rfl (by kernel_rfl) (by kernel_rfl) (by kernel_rfl) (fun _ _ _ h => h) (Or.inl ⟨by rfl, ?_⟩) (by assumption) ?_
                          rotate_left
                          · intro w hSw
                            try dsimp only at hSw
                            go_simp
                            try with_reducible rfl
                          try simp only [Act.put, List.setIfInBounds_toArray, List.set_cons_zero, List.set_cons_succ]
                          refine wpAnyH_take (i := 9) (v := ?_) rfl (by kernel_rfl) (by kernel_rfl) (by kernel_rfl) (fun _ _ _ h => h) (Or.inl ⟨by rfl, ?_⟩) (by assumption) ?_
                          rotate_left
                          · intro w hSw
                            try dsimp only at hSw
                            go_simp
                            try with_reducible rfl
                          try simp only [Act.put, List.setIfInBounds_toArray, List.set_cons_zero, List.set_cons_succ]
                          refine wpAnyH_ready (rs := [11]) (by kernel_rfl) (by simp) ?_
                          refine AllReadyH.cons rfl (fun K hK => ?_) AllReadyH.nil
                          go_simp
                          refine hK.out _ _ (HSS.out _ HNB.out.bel) (fun hHeld => ?_)
                          clear hK K
                          try simp only [Act.put, List.setIfInBounds_toArray, List.set_cons_zero, List.set_cons_succ]
                          refine wpAnyH_take (i := 12) (v := ?_) rfl (by kernel_rfl) (by kernel_rfl) (by kernel_rfl) (fun _ _ _ h => h) (Or.inl ⟨by rfl, ?_⟩) (by assumption) ?_
                          rotate_left
                          · intro w hSw
                            try dsimp only at hSw
                            go_simp
                            try with_reducible rfl
                          try simp only [Act.put, List.setIfInBounds_toArray, List.set_cons_zero, List.set_cons_succ]
                          refine wpAnyH_done (by kernel_rfl) ?_ _
                          refine NoPanic.normal ?_
                          go_wp2_with fail
                          go_meet
                          case rel => exact ⟨_, rfl, rfl, HNB.out⟩
                    case rest =>
                      obtain ⟨qb, rfl, rfl, hbox⟩ := hcut
                      have HXB := Lib.hid hbox.box
                      have HXA2 := Lib.hid ((hbox.bel.block _ (Gn.heap_lt HXA.out)).trans HXA.out)
                      have HK3 := Lib.hid (HK2.out.under hbox.bel)
                      clear hbox HSS HFI HFI2 HK2 HXA
                      have HK2 := HK3
                      clear HK3
                      rename World => w16
                      go_upto_region 22 with fail
                      have HCL2 := Lib.hid (fun (w : World) (b : Below w16.heap.size w16 w) => HCL.out w (HK2.out.under b))
                      have HSS := Lib.hid (fun (w' : World) (b : Below w16.heap.size w16 w') => show (fun w' : World => w'.cell? ⟨B, 0, none⟩ = some (.slice A1 n1 c1) ∧ w'.cell? ⟨B, 1, none⟩ = some (.slice A2 n2 c2) ∧ w'.cell? ⟨C, 0, none⟩ = some (.slice A3 n1 c3) ∧ w'.cell? ⟨C, 1, none⟩ = some (.slice A4 n2 c4) ∧ w'.cell? ⟨bk, off + k * 4, none⟩ = some (.int .i64 dw) ∧ w'.cell? ⟨bk, off + k * 4 + 1, none⟩ = some (.string da) ∧ w'.cell? ⟨bk, off + k * 4 + 2, none⟩ = some (.string db) ∧ w'.cell? ⟨bk, off + k * 4 + 3, none⟩ = some (.int .i64 dn)) w' from by
                        obtain ⟨z1, z2, z3, z4⟩ := (HK2.out.under b).cells
                        exact ⟨z1, z2, z3, z4, HQ.out w' (HK2.out.under b).bel⟩)
                      go_cut [17, 18] from 117 to 126 (fun sa sb wx => ∃ (q : Nat) (A9 : Option Addr) (c9 : Nat), sa = .pointer (some ⟨q, 0, none⟩) ∧ sb = .bool cb ∧ NewAt w16 wx q 53 #[.string cn, .string ct, .slice A9 sl c9])
                      case first =>
                        as_aux_lemma =>
                          refine wp_region_noPanic ?_
                          refine wp_region_held_drew (S := (fun w' : World => w'.cell? ⟨B, 0, none⟩ = some (.slice A1 n1 c1) ∧ w'.cell? ⟨B, 1, none⟩ = some (.slice A2 n2 c2) ∧ w'.cell? ⟨C, 0, none⟩ = some (.slice A3 n1 c3) ∧ w'.cell? ⟨C, 1, none⟩ = some (.slice A4 n2 c4) ∧ w'.cell? ⟨bk, off + k * 4, none⟩ = some (.int .i64 dw) ∧ w'.cell? ⟨bk, off + k * 4 + 1, none⟩ = some (.string da) ∧ w'.cell? ⟨bk, off + k * 4 + 2, none⟩ = some (.string db) ∧ w'.cell? ⟨bk, off + k * 4 + 3, none⟩ = some (.int .i64 dn))) (by kernel_rfl) ?_ (fun hHeld => ?_)
                          · exact HSS.out _ (Gn.below_drew (Below.refl _ _))
                          refine wpAnyH_take (i := 0) (v := ?_) rfl (by kernel_rfl) (by kernel_rfl) (by kernel_rfl) (fun _ _ _ h => h) (Or.inl ⟨by rfl, ?_⟩) (by assumption) ?_
                          rotate_left
                          · intro w hSw
                            try dsimp only at hSw
                            go_simp
                            try with_reducible rfl
                          try simp only [Act.put, List.setIfInBounds_toArray, List.set_cons_zero, List.set_cons_succ]
                          refine wpAnyH_take (i := 1) (v := ?_) rfl (by kernel_rfl) (by kernel_rfl) (by kernel_rfl) (fun _ _ _ h => h) (Or.inl ⟨by rfl, ?_⟩) (by assumption) ?_
                          rotate_left
                          · intro w hSw
                            try dsimp only at hSw
                            go_simp
                            try with_reducible rfl
                          try simp only [Act.put, List.setIfInBounds_toArray, List.set_cons_zero, List.set_cons_succ]
                          refine wpAnyH_take (i := 2) (v := ?_) rfl (by kernel_rfl) (by kernel_rfl) (by kernel_rfl) (fun _ _ _ h => h) (Or.inl ⟨by rfl, ?_⟩) (by assumption) ?_
                          rotate_left
                          · intro w hSw
                            try dsimp only at hSw
                            go_simp
                            try with_reducible rfl
                          try simp only [Act.put, List.setIfInBounds_toArray, List.set_cons_zero, List.set_cons_succ]
                          refine wpAnyH_take (i := 3) (v := ?_) rfl (by kernel_rfl) (by kernel_rfl) (by kernel_rfl) (fun _ _ _ h => h) (Or.inl ⟨by rfl, ?_⟩) (by assumption) ?_
                          rotate_left
                          · intro w hSw
                            try dsimp only at hSw
                            go_simp
                            try with_reducible rfl
                          try simp only [Act.put, List.setIfInBounds_toArray, List.set_cons_zero, List.set_cons_succ]
                          refine wpAnyH_take (i := 4) (v := ?_) rfl (by kernel_rfl) (by kernel_rfl) (by kernel_rfl) (fun _ _ _ h => h) (Or.inl ⟨by rfl, ?_⟩) (by assumption) ?_
                          rotate_left
                          · intro w hSw
                            try dsimp only at hSw
                            go_simp
                            try with_reducible rfl
                          try simp only [Act.put, List.setIfInBounds_toArray, List.set_cons_zero, List.set_cons_succ]
                          refine wpAnyH_take (i := 5) (v := ?_) rfl (by kernel_rfl) (by kernel_rfl) (by kernel_rfl) (fun _ _ _ h => h) (Or.inl ⟨by rfl, ?_⟩) (by assumption) ?_
                          rotate_left
                          · intro w hSw
                            try dsimp only at hSw
                            go_simp
                            try with_reducible rfl
                          try simp only [Act.put, List.setIfInBounds_toArray, List.set_cons_zero, List.set_cons_succ]
                          refine wpAnyH_ready (rs := [6, 10]) (by kernel_rfl) (by simp) ?_
                          refine AllReadyH.cons rfl (fun K hK => ?_) ?_
                          · go_simp
                            go_at_call 14
                            refine (HCL2.out _ (Gn.below_drew (Below.refl _ _))).mono ?_
                            rintro e w3 ⟨A9, c9, rfl, hb3⟩
                            have HBB := Lib.hid hb3
                            have HNB := Lib.hid (show NewAt w16 (w3.alloc (.cells #[.string cn, .string ct, .slice A9 sl c9] 53)) w3.heap.size 53 #[.string cn, .string ct, .slice A9 sl c9] from (NewAt.late _ hb3).drew)
                            have HBW := Lib.hid ((Gn.below_drew (Below.refl _ _)).trans (hb3.mono (Nat.le_refl _)))
                            clear hb3
                            refine hK.out _ _ (HSS.out _ HBW.out) (fun hHeld => ?_)
                            clear hK K
                            try simp only [Act.put, List.setIfInBounds_toArray, List.set_cons_zero, List.set_cons_succ]
                            refine wpAnyH_take (i := 7) (v := ?_) rfl (by kernel_rfl) (by kernel_rfl) (by kernel_rfl) (fun _ _ _ h => h) (Or.inl ⟨by rfl, ?_⟩) (by assumption) ?_
                            rotate_left
                            · intro w hSw
                              try dsimp only at hSw
                              go_simp
                              try with_reducible rfl
                            try simp only [Act.put, List.setIfInBounds_toArray, List.set_cons_zero, List.set_cons_succ]
                            refine wpAnyH_take (i := 8) (v := ?_) rfl (by kernel_rfl) (by kernel_rfl) (by kernel_rfl) (fun _ _ _ h => h) (Or.inl ⟨by rfl, ?_⟩) (by assumption) ?_
                            rotate_left
                            · intro w hSw
                              try dsimp only at hSw
                              go_simp
                              try with_reducible rfl
                            try simp only [Act.put, List.setIfInBounds_toArray, List.set_cons_zero, List.set_cons_succ]
                            refine wpAnyH_take (i := 9) (v := ?_) rfl (by kernel_rfl) (by kernel_rfl) (by kernel_rfl) (fun _ _ _ h => h) (Or.inl ⟨by rfl, ?_⟩) (by assumption) ?_
                            rotate_left
                            · intro w hSw
                              try dsimp only at hSw
                              go_simp
                              try with_reducible rfl
                            try simp only [Act.put, List.setIfInBounds_toArray, List.set_cons_zero, List.set_cons_succ]
                            refine wpAnyH_ready (rs := [10]) (by kernel_rfl) (by simp) ?_
                            refine AllReadyH.cons rfl (fun K hK => ?_) AllReadyH.nil
                            go_simp
                            refine hK.out _ _ (HSS.out _ (HBW.out.trans (((Below.refl _ _).alloc (Nat.le_refl _) _).mono HBW.out.size))) (fun hHeld => ?_)
                            clear hK K
                            try simp only [Act.put, List.setIfInBounds_toArray, List.set_cons_zero, List.set_cons_succ]
                            refine wpAnyH_ready (rs := [11]) (by kernel_rfl) (by simp) ?_
                            refine AllReadyH.cons rfl (fun K hK => ?_) AllReadyH.nil
                            go_simp
                            refine hK.out _ _ (HSS.out _ HNB.out.bel) (fun hHeld => ?_)
                            clear hK K
                            try simp only [Act.put, List.setIfInBounds_toArray, List.set_cons_zero, List.set_cons_succ]
                            refine wpAnyH_take (i := 12) (v := ?_) rfl (by kernel_rfl) (by kernel_rfl) (by kernel_rfl) (fun _ _ _ h => h) (Or.inl ⟨by rfl, ?_⟩) (by assumption) ?_
                            rotate_left
                            · intro w hSw
                              try dsimp only at hSw
                              go_simp
                              try with_reducible rfl
                            try simp only [Act.put, List.setIfInBounds_toArray, List.set_cons_zero, List.set_cons_succ]
                            refine wpAnyH_done (by kernel_rfl) ?_ _
                            refine NoPanic.normal ?_
                            go_wp2_with fail
                            go_meet
                            case rel => exact ⟨_, _, _, rfl, rfl, HNB.out⟩
                          refine AllReadyH.cons rfl (fun K hK => ?_) AllReadyH.nil
                          · go_simp
                            refine hK.out _ _ (HSS.out _ ((Gn.below_drew (Below.refl _ _)).trans (((Below.refl _ _).alloc (Nat.le_refl _) _).mono (Nat.le_refl _)))) (fun hHeld => ?_)
                            clear hK K
                            try simp only [Act.put, List.setIfInBounds_toArray, List.set_cons_zero, List.set_cons_succ]
                            refine wpAnyH_ready (rs := [6]) (by kernel_rfl) (by simp) ?_
                            refine AllReadyH.cons rfl (fun K hK => ?_) AllReadyH.nil
                            go_simp
                            go_at_call 14
                            refine (HCL2.out _ ((Gn.below_drew (Below.refl _ _)).trans (((Below.refl _ _).alloc (Nat.le_refl _) _).mono (Nat.le_refl _)))).mono ?_
                            rintro e w3 ⟨A9, c9, rfl, hb3⟩
                            have HBB := Lib.hid hb3
                            have hq := (HBB.out.block w16.heap.size (by simp)).trans (heap_alloc_new w16.drew _)
                            have q0 := cell_of_row _ _ 0 _ _ (0, 0) hq
                            have q1 := cell_of_row _ _ 1 _ _ (0, 0) hq
                            have q2 := cell_of_row _ _ 2 _ _ (0, 0) hq
                            have f0 := Gn.frozen_row hq 0
                            have f1 := Gn.frozen_row hq 1
                            have f2 := Gn.frozen_row hq 2
                            have HNB := Lib.hid (show NewAt w16 (((w3.setCell ⟨w16.heap.size, 0, none⟩ (.string cn)).setCell ⟨w16.heap.size, 1, none⟩ (.string ct)).setCell ⟨w16.heap.size, 2, none⟩ (.slice A9 sl c9)) w16.heap.size 53 #[.string cn, .string ct, .slice A9 sl c9] from (NewAt.early3 _ _ _ HBB.out hq).drew)
                            clear hq
                            have HBW := Lib.hid (((Gn.below_drew (Below.refl _ _)).trans (((Below.refl _ _).alloc (Nat.le_refl _) _).mono (Nat.le_refl _))).trans (hb3.mono (by simp)))
                            clear hb3
                            refine hK.out _ _ (HSS.out _ HBW.out) (fun hHeld => ?_)
                            clear hK K
                            try simp only [Act.put, List.setIfInBounds_toArray, List.set_cons_zero, List.set_cons_succ]
                            refine wpAnyH_take (i := 7) (v := ?_) rfl (by kernel_rfl) (by kernel_rfl) (by kernel_rfl) (fun _ _ _ h => h) (Or.inl ⟨by rfl, ?_⟩) (by assumption) ?_
                            rotate_left
                            · intro w hSw
                              try dsimp only at hSw
                              go_simp
                              try with_reducible rfl
                            try simp only [Act.put, List.setIfInBounds_toArray, List.set_cons_zero, List.set_cons_succ]
                            refine wpAnyH_take (i := 8) (v := ?_) rfl (by kernel_rfl) (by kernel_rfl) (by kernel_rfl) (fun _ _ _ h => h) (Or.inl ⟨by rfl, ?_⟩) (by assumption) ?_
                            rotate_left
                            · intro w hSw
                              try dsimp only at hSw
                              go_simp
                              try with_reducible rfl
                            try simp only [Act.put, List.setIfInBounds_toArray, List.set_cons_zero, List.set_cons_succ]
                            refine wpAnyH_take (i := 9) (v := ?_) rfl (by kernel_rfl) (by kernel_rfl) (by kernel_rfl) (fun _ _ _ h => h) (Or.inl ⟨by rfl, ?_⟩) (by assumption) ?_
                            rotate_left
                            · intro w hSw
                              try dsimp only at hSw
                              go_simp
                              try with_reducible rfl
                            try simp only [Act.put, List.setIfInBounds_toArray, List.set_cons_zero, List.set_cons_succ]
                            refine wpAnyH_ready (rs := [11]) (by kernel_rfl) (by simp) ?_
                            refine AllReadyH.cons rfl (fun K hK => ?_) AllReadyH.nil
                            go_simp
                            refine hK.out _ _ (HSS.out _ HNB.out.bel) (fun hHeld => ?_)
                            clear hK K
                            try simp only [Act.put, List.setIfInBounds_toArray, List.set_cons_zero, List.set_cons_succ]
                            refine wpAnyH_take (i := 12) (v := ?_) rfl (by kernel_rfl) (by kernel_rfl) (by kernel_rfl) (fun _ _ _ h => h) (Or.inl ⟨by rfl, ?_⟩) (by assumption) ?_
                            rotate_left
                            · intro w hSw
                              try dsimp only at hSw
                              go_simp
                              try with_reducible rfl
                            try simp only [Act.put, List.setIfInBounds_toArray, List.set_cons_zero, List.set_cons_succ]
                            refine wpAnyH_done (by kernel_rfl) ?_ _
                            refine NoPanic.normal ?_
                            go_wp2_with fail
                            go_meet
                            case rel => exact ⟨_, _, _, rfl, rfl, HNB.out⟩
                      case rest =>
                        obtain ⟨qc, A9, c9, rfl, rfl, hbox⟩ := hcut
                        have HXC := Lib.hid hbox.box
                        have HXB2 := Lib.hid ((hbox.bel.block _ (Gn.heap_lt HXB.out)).trans HXB.out)
                        have HXA3 := Lib.hid ((hbox.bel.block _ (Gn.heap_lt HXA2.out)).trans HXA2.out)
                        have HK3 := Lib.hid (HK2.out.under hbox.bel)
                        clear hbox HSS HCL HCL2 HK2 HXA2 HXB
                        have HK2 := HK3
                        clear HK3
                        rename World => w17
                        go_upto_region 23 with fail
                        have HOF2 := Lib.hid (fun (w : World) (b : Below w17.heap.size w17 w) => HOF.out w (HK2.out.under b))
                        have HSS := Lib.hid (fun (w' : World) (b : Below w17.heap.size w17 w') => show (fun w' : World => w'.cell? ⟨B, 0, none⟩ = some (.slice A1 n1 c1) ∧ w'.cell? ⟨B, 1, none⟩ = some (.slice A2 n2 c2) ∧ w'.cell? ⟨C, 0, none⟩ = some (.slice A3 n1 c3) ∧ w'.cell? ⟨C, 1, none⟩ = some (.slice A4 n2 c4) ∧ w'.cell? ⟨bk, off + k * 4, none⟩ = some (.int .i64 dw) ∧ w'.cell? ⟨bk, off + k * 4 + 1, none⟩ = some (.string da) ∧ w'.cell? ⟨bk, off + k * 4 + 2, none⟩ = some (.string db) ∧ w'.cell? ⟨bk, off + k * 4 + 3, none⟩ = some (.int .i64 dn)) w' from by
                          obtain ⟨z1, z2, z3, z4⟩ := (HK2.out.under b).cells
                          exact ⟨z1, z2, z3, z4, HQ.out w' (HK2.out.under b).bel⟩)
                        go_cut [19] from 127 to 133 (fun sa wx => sa = .int .i64 (ofI r.classes da) ∧ Below w17.heap.size w17 wx)
                        case first =>
                          as_aux_lemma =>
                            refine wp_region_noPanic ?_
                            refine wp_region_held_drew (S := (fun w' : World => w'.cell? ⟨B, 0, none⟩ = some (.slice A1 n1 c1) ∧ w'.cell? ⟨B, 1, none⟩ = some (.slice A2 n2 c2) ∧ w'.cell? ⟨C, 0, none⟩ = some (.slice A3 n1 c3) ∧ w'.cell? ⟨C, 1, none⟩ = some (.slice A4 n2 c4) ∧ w'.cell? ⟨bk, off + k * 4, none⟩ = some (.int .i64 dw) ∧ w'.cell? ⟨bk, off + k * 4 + 1, none⟩ = some (.string da) ∧ w'.cell? ⟨bk, off + k * 4 + 2, none⟩ = some (.string db) ∧ w'.cell? ⟨bk, off + k * 4 + 3, none⟩ = some (.int .i64 dn))) (by kernel_rfl) ?_ (fun hHeld => ?_)
                            · exact HSS.out _ (Gn.below_drew (Below.refl _ _))
                            refine wpAnyH_take (i := 0) (v := ?_) rfl (by kernel_rfl) (by kernel_rfl) (by kernel_rfl) (fun _ _ _ h => h) (Or.inl ⟨by rfl, ?_⟩) (by assumption) ?_
                            rotate_left
                            · intro w hSw
                              try dsimp only at hSw
                              go_simp
                              try with_reducible rfl
                            try simp only [Act.put, List.setIfInBounds_toArray, List.set_cons_zero, List.set_cons_succ]
                            refine wpAnyH_take (i := 1) (v := ?_) rfl (by kernel_rfl) (by kernel_rfl) (by kernel_rfl) (fun _ _ _ h => h) (Or.inl ⟨by rfl, ?_⟩) (by assumption) ?_
                            rotate_left
                            · intro w hSw
                              try dsimp only at hSw
                              go_simp
                              try with_reducible rfl
                            try simp only [Act.put, List.setIfInBounds_toArray, List.set_cons_zero, List.set_cons_succ]
                            refine wpAnyH_take (i := 2) (v := ?_) rfl (by kernel_rfl) (by kernel_rfl) (by kernel_rfl) (fun _ _ _ h => h) (Or.inl ⟨by rfl, ?_⟩) (by assumption) ?_
                            rotate_left
                            · intro w hSw
                              try dsimp only at hSw
                              go_simp
                              try with_reducible rfl
                            try simp only [Act.put, List.setIfInBounds_toArray, List.set_cons_zero, List.set_cons_succ]
                            refine wpAnyH_take (i := 3) (v := ?_) rfl (by kernel_rfl) (by kernel_rfl) (by kernel_rfl) (fun _ _ _ h => h) (Or.inl ⟨by rfl, ?_⟩) (by assumption) ?_
                            rotate_left
                            · intro w hSw
                              try dsimp only at hSw
                              go_simp
                              try with_reducible rfl
                            try simp only [Act.put, List.setIfInBounds_toArray, List.set_cons_zero, List.set_cons_succ]
                            refine wpAnyH_take (i := 4) (v := ?_) rfl (by kernel_rfl) (by kernel_rfl) (by kernel_rfl) (fun _ _ _ h => h) (Or.inl ⟨by rfl, ?_⟩) (by assumption) ?_
                            rotate_left
                            · intro w hSw
                              try dsimp only at hSw
                              go_simp
                              try with_reducible rfl
                            try simp only [Act.put, List.setIfInBounds_toArray, List.set_cons_zero, List.set_cons_succ]
                            refine wpAnyH_take (i := 5) (v := ?_) rfl (by kernel_rfl) (by kernel_rfl) (by kernel_rfl) (fun _ _ _ h => h) (Or.inl ⟨by rfl, ?_⟩) (by assumption) ?_
                            rotate_left
                            · intro w hSw
                              try dsimp only at hSw
                              go_simp
                              try with_reducible rfl
                            try simp only [Act.put, List.setIfInBounds_toArray, List.set_cons_zero, List.set_cons_succ]
                            refine wpAnyH_ready (rs := [6]) (by kernel_rfl) (by simp) ?_
                            refine AllReadyH.cons rfl (fun K hK => ?_) AllReadyH.nil
                            go_simp
                            go_at_call 15
                            refine (HOF2.out _ (Gn.below_drew (Below.refl _ _))).mono ?_
                            rintro e w3 ⟨rfl, hb3⟩
                            have HBW := Lib.hid ((Gn.below_drew (Below.refl _ _)).trans (hb3.mono (Nat.le_refl _)))
                            clear hb3
                            refine hK.out _ _ (HSS.out _ HBW.out) (fun hHeld => ?_)
                            clear hK K
                            try simp only [Act.put, List.setIfInBounds_toArray, List.set_cons_zero, List.set_cons_succ]
                            refine wpAnyH_take (i := 7) (v := ?_) rfl (by kernel_rfl) (by kernel_rfl) (by kernel_rfl) (fun _ _ _ h => h) (Or.inl ⟨by rfl, ?_⟩) (by assumption) ?_
                            rotate_left
                            · intro w hSw
                              try dsimp only at hSw
                              go_simp
                              try with_reducible rfl
                            try simp only [Act.put, List.setIfInBounds_toArray, List.set_cons_zero, List.set_cons_succ]
                            refine wpAnyH_done (by kernel_rfl) ?_ _
                            refine NoPanic.normal ?_
                            go_wp2_with fail
                            go_meet
                            case rel => exact ⟨rfl, HBW.out⟩
                        case rest =>
                          obtain ⟨rfl, hb⟩ := hcut
                          have HXC2 := Lib.hid ((hb.block _ (Gn.heap_lt HXC.out)).trans HXC.out)
                          have HXB3 := Lib.hid ((hb.block _ (Gn.heap_lt HXB2.out)).trans HXB2.out)
                          have HXA4 := Lib.hid ((hb.block _ (Gn.heap_lt HXA3.out)).trans HXA3.out)
                          have HK3 := Lib.hid (HK2.out.under hb)
                          clear hb HSS HOF HOF2 HK2 HXA3 HXB2 HXC
                          have HK2 := HK3
                          clear HK3
                          rename World => w18
                          obtain ⟨iv, hiv⟩ : ∃ iv, iv = ofI r.classes da := ⟨_, rfl⟩
                          rw [← hiv]
                          have hib : decide ((0 : Int) ≤ iv) = cb := by
                            rw [hiv, HCB.out]
                            unfold ofI
                            cases hasN r.classes da with
                            | true => rw [if_pos rfl]; exact decide_eq_true (by omega)
                            | false => rfl
                          have HIV := Lib.hid hiv
                          have HIB := Lib.hid hib
                          clear hiv hib
                          go_upto_region 24 with fail
                          go_cut [174] from 134 to 173 (fun sa wx => sa = .bool false ∧ Below w18.heap.size w18 wx)
                          case first =>
                            as_aux_lemma =>
                              obtain ⟨b0, b1, b2, b3⟩ := HK2.out.cells
                              have u0 := cell_of_row _ _ 0 _ _ (0, 0) HXA4.out
                              have u1 := cell_of_row _ _ 1 _ _ (0, 0) HXA4.out
                              have u2 := cell_of_row _ _ 2 _ _ (0, 0) HXA4.out
                              have v0 := cell_of_row _ _ 0 _ _ (0, 0) HXB3.out
                              have v1 := cell_of_row _ _ 1 _ _ (0, 0) HXB3.out
                              have v2 := cell_of_row _ _ 2 _ _ (0, 0) HXB3.out
                              have x0 := cell_of_row _ _ 0 _ _ (0, 0) HXC2.out
                              have x1 := cell_of_row _ _ 1 _ _ (0, 0) HXC2.out
                              have x2 := cell_of_row _ _ 2 _ _ (0, 0) HXC2.out
                              cases cb with
                              | false =>
                                have hi0 : ¬ (0 : Int) ≤ iv := by have := HIB.out; exact of_decide_eq_false this
                                go_quiet (fail)
                                go_wp2_with fail
                                go_meet
                                case rel => exact ⟨rfl, Gn.below_drewN (Below.refl _ _) _⟩
                              | true =>
                                have hi0 : (0 : Int) ≤ iv := by have := HIB.out; exact of_decide_eq_true this
                                have hpl : plc r.classes da < r.cs.length := plcC_lt HIN.out.classes HCB.out.symm
                                have hpe : iv = (plc r.classes da : Int) := by rw [HIV.out]; unfold ofI; rw [if_pos HCB.out.symm]
                                obtain ⟨g4, c4', A6, c6, e4, hc4, hg4, k1, k2, hst⟩ := HK2.out.class_ hpl
                                have hxe : r.cs[plc r.classes da] = (⟨cn, ct, cs⟩ : Cls) := by
                                  rw [HCX.out]
                                  unfold findC
                                  rw [if_pos HCB.out.symm, List.getD_eq_getElem?_getD, List.getElem?_eq_getElem hpl]
                                  rfl
                                rw [hxe] at k1 k2
                                dsimp only at k1 k2
                                rw [← HSL.out] at k2
                                rw [← HN2.out] at e4 hc4 hpl
                                injection e4 with e4 _ e5
                                subst e4
                                subst e5
                                obtain ⟨pl, hpp⟩ : ∃ pl, pl = plc r.classes da := ⟨_, rfl⟩
                                rw [← hpp] at k1 k2 hpl hpe
                                subst hpe
                                have hpl2 : (pl : Int) < (n2 : Int) := by omega
                                clear hpp hxe hst hg4
                                go_quiet (fail)
                                go_wp2_with fail
                                go_meet
                                case rel => exact ⟨rfl, Gn.below_drewN (Below.refl _ _) _⟩
                          case rest =>
                            obtain ⟨rfl, hb⟩ := hcut
                            have HK3 := Lib.hid (HK2.out.under hb)
                            clear hb HK2 HXA4 HXB3 HXC2 HIV HIB HCX HCB HSL
                            have HK2 := HK3
                            clear HK3
                            rename World => w19
                            go_wp2_with fail
                            go_loopw [20, 21] (fun x y wr => ∃ (j : Nat), j ≤ n2 ∧ x = .bool (taughtBy r da db j) ∧ y = .int .i64 j ∧ Below w19.heap.size w19 wr) (fun _ y _ => n2 - (intOf y).toNat)
                            case atStart => exact ⟨0, Nat.zero_le _, rfl, rfl, Below.refl _ _⟩
                            case round =>
                              obtain ⟨j, hjn, rfl, rfl, hb⟩ := hrel
                              have HB := Lib.hid hb
                              clear hb
                              obtain ⟨tb, htb⟩ : ∃ tb, tb = taughtBy r da db j := ⟨_, rfl⟩
                              rw [← htb]
                              have HTB := Lib.hid htb
                              clear htb
                              obtain ⟨b0, b1, b2, b3⟩ := (HK2.out.under HB.out).cells
                              by_cases hlt : j < n2
                              · have hlt2 : (j : Int) < (n2 : Int) := by omega
                                have hjc : j < r.cs.length := by rw [← HN2.out]; exact hlt
                                obtain ⟨g4, c4', A6, c6, e4, hc4, hg4, k1, k2, hst⟩ := (HK2.out.under HB.out).class_ hjc
                                rw [← HN2.out] at e4 hc4
                                injection e4 with e4 _ e5
                                subst e4
                                subst e5
                                have HLS := Lib.hid (HIN.out.ls _ (List.getElem_mem hjc))
                                have hts := taught_succ r da db j hjc
                                rw [← HTB.out] at hts
                                obtain ⟨c, hc⟩ : ∃ c, c = r.cs[j] := ⟨_, rfl⟩
                                rw [← hc] at k1 k2 hst HLS hts
                                clear hc
                                have HIN7 := Lib.hid (fun (w : World) (b : Below wr.heap.size wr w) => in_any c.studs db _ w _ (hst.under b) (by have := HLS.out; omega))
                                obtain ⟨hv, hhv⟩ : ∃ hv, hv = hasN c.studs db := ⟨_, rfl⟩
                                obtain ⟨sl, hsl⟩ : ∃ sl, sl = c.studs.length := ⟨_, rfl⟩
                                obtain ⟨tn, htn⟩ : ∃ tn, tn = c.teacher := ⟨_, rfl⟩
                                rw [← hhv, ← hsl] at HIN7
                                rw [← hsl] at k2
                                rw [← htn] at k1
                                rw [← hhv, ← htn] at hts
                                have HJ1 := Lib.hid (show IntKind.i64.wrap ((j : Int) + 1) = ((j + 1 : Nat) : Int) from IntWalk.i64_in _ (by omega))
                                have HF := Lib.hid (fun (w' : World) (b : Below wr.heap.size wr w') => show w'.cell? ⟨C, 1, none⟩ = some (.slice (some ⟨g4, 0, none⟩) n2 c4) ∧ w'.cell? ⟨g4, j * 3 + 1, none⟩ = some (.string tn) ∧ w'.cell? ⟨g4, j * 3 + 2, none⟩ = some (.slice A6 sl c6) ∧ w'.cell? ⟨bk, off + k * 4 + 1, none⟩ = some (.string da) ∧ w'.cell? ⟨bk, off + k * 4 + 2, none⟩ = some (.string db) ∧ True from by
                                  obtain ⟨z1, z2, z3, z4⟩ := ((HK2.out.under HB.out).under b).cells
                                  obtain ⟨x1, x2, x3, x4⟩ := HQ.out w' ((HK2.out.under HB.out).under b).bel
                                  exact ⟨z4, (b.cell (p := ⟨g4, j * 3 + 1, none⟩) hg4).trans k1, (b.cell (p := ⟨g4, j * 3 + 2, none⟩) hg4).trans k2, x2, x3, trivial⟩)
                                clear hhv hsl htn hst hg4 HLS hjc b0 b1 b2 k1 k2
                                go_upto_region 30 with fail
                                clear b3
                                cases tb with
                                | true =>
                                  have HTS := Lib.hid (show taughtBy r da db (j + 1) = true by rw [hts]; rfl)
                                  clear hts
                                  as_aux_lemma =>
                                    refine LooseD.region_loose (fun w => Below wr.heap.size wr w) _ _ (by kernel_rfl) (by kernel_rfl)
                                      (LooseD.waits (D := [[], [], [], [], [], [], [], [], [], [], [], [], [], [], [], [], [], [], [], [], [], [], [], [], [], [], [], [], [], []]) (by kernel_rfl))
                                      (LooseD.stays (ts := [none, none, none, none, none, none, none, none, none, none, none, none, none, none, none, none, none, none, none, none, none, none, none, none, none, none, none, none, none, none]) (fun w w' h b => h.trans (b.mono h.size)) (.none (.none (.none (.none (.none (.none (.none (.none (.none (.none (.none (.none (.none (.none (.none (.none (.none (.none (.none (.none (.none (.none (.none (.none (.none (.none (.none (.none (.none (.none .nil)))))))))))))))))))))))))))))))
                                      (Gn.below_drew (Below.refl _ _)) ?_
                                    refine LooseD.reads (.bool true) rfl rfl ?_ ?_
                                    · intro w hw
                                      obtain ⟨y1, y2, y3, y4, y5, y6⟩ := HF.out w hw
                                      clear hw
                                      go_simp
                                    try simp only [Act.put, List.setIfInBounds_toArray, List.set_cons_zero, List.set_cons_succ]
                                    refine LooseD.reads (.bool true) rfl rfl ?_ ?_
                                    · intro w hw
                                      obtain ⟨y1, y2, y3, y4, y5, y6⟩ := HF.out w hw
                                      clear hw
                                      go_simp
                                    try simp only [Act.put, List.setIfInBounds_toArray, List.set_cons_zero, List.set_cons_succ]
                                    refine LooseD.unwanted rfl ?_
                                    try simp only [Act.put, List.setIfInBounds_toArray, List.set_cons_zero, List.set_cons_succ]
                                    refine LooseD.unwanted rfl ?_
                                    try simp only [Act.put, List.setIfInBounds_toArray, List.set_cons_zero, List.set_cons_succ]
                                    refine LooseD.unwanted rfl ?_
                                    try simp only [Act.put, List.setIfInBounds_toArray, List.set_cons_zero, List.set_cons_succ]
                                    refine LooseD.unwanted rfl ?_
                                    try simp only [Act.put, List.setIfInBounds_toArray, List.set_cons_zero, List.set_cons_succ]
                                    refine LooseD.unwanted rfl ?_
                                    try simp only [Act.put, List.setIfInBounds_toArray, List.set_cons_zero, List.set_cons_succ]
                                    refine LooseD.unwanted rfl ?_
                                    try simp only [Act.put, List.setIfInBounds_toArray, List.set_cons_zero, List.set_cons_succ]
                                    refine LooseD.unwanted rfl ?_
                                    try simp only [Act.put, List.setIfInBounds_toArray, List.set_cons_zero, List.set_cons_succ]
                                    refine LooseD.unwanted rfl ?_
                                    try simp only [Act.put, List.setIfInBounds_toArray, List.set_cons_zero, List.set_cons_succ]
                                    refine LooseD.unwanted rfl ?_
                                    try simp only [Act.put, List.setIfInBounds_toArray, List.set_cons_zero, List.set_cons_succ]
                                    refine LooseD.unwanted rfl ?_
                                    try simp only [Act.put, List.setIfInBounds_toArray, List.set_cons_zero, List.set_cons_succ]
                                    refine LooseD.unwanted rfl ?_
                                    try simp only [Act.put, List.setIfInBounds_toArray, List.set_cons_zero, List.set_cons_succ]
                                    refine LooseD.unwanted rfl ?_
                                    try simp only [Act.put, List.setIfInBounds_toArray, List.set_cons_zero, List.set_cons_succ]
                                    refine LooseD.unwanted rfl ?_
                                    try simp only [Act.put, List.setIfInBounds_toArray, List.set_cons_zero, List.set_cons_succ]
                                    refine LooseD.unwanted rfl ?_
                                    try simp only [Act.put, List.setIfInBounds_toArray, List.set_cons_zero, List.set_cons_succ]
                                    refine LooseD.unwanted rfl ?_
                                    try simp only [Act.put, List.setIfInBounds_toArray, List.set_cons_zero, List.set_cons_succ]
                                    refine LooseD.unwanted rfl ?_
                                    try simp only [Act.put, List.setIfInBounds_toArray, List.set_cons_zero, List.set_cons_succ]
                                    refine LooseD.unwanted rfl ?_
                                    try simp only [Act.put, List.setIfInBounds_toArray, List.set_cons_zero, List.set_cons_succ]
                                    refine LooseD.unwanted rfl ?_
                                    try simp only [Act.put, List.setIfInBounds_toArray, List.set_cons_zero, List.set_cons_succ]
                                    refine LooseD.unwanted rfl ?_
                                    try simp only [Act.put, List.setIfInBounds_toArray, List.set_cons_zero, List.set_cons_succ]
                                    refine LooseD.unwanted rfl ?_
                                    try simp only [Act.put, List.setIfInBounds_toArray, List.set_cons_zero, List.set_cons_succ]
                                    refine LooseD.unwanted rfl ?_
                                    try simp only [Act.put, List.setIfInBounds_toArray, List.set_cons_zero, List.set_cons_succ]
                                    refine LooseD.unwanted rfl ?_
                                    try simp only [Act.put, List.setIfInBounds_toArray, List.set_cons_zero, List.set_cons_succ]
                                    refine LooseD.unwanted rfl ?_
                                    try simp only [Act.put, List.setIfInBounds_toArray, List.set_cons_zero, List.set_cons_succ]
                                    refine LooseD.unwanted rfl ?_
                                    try simp only [Act.put, List.setIfInBounds_toArray, List.set_cons_zero, List.set_cons_succ]
                                    refine LooseD.unwanted rfl ?_
                                    try simp only [Act.put, List.setIfInBounds_toArray, List.set_cons_zero, List.set_cons_succ]
                                    refine LooseD.unwanted rfl ?_
                                    try simp only [Act.put, List.setIfInBounds_toArray, List.set_cons_zero, List.set_cons_succ]
                                    refine LooseD.reads (.bool true) rfl rfl ?_ ?_
                                    · intro w hw
                                      obtain ⟨y1, y2, y3, y4, y5, y6⟩ := HF.out w hw
                                      clear hw
                                      go_simp
                                    try simp only [Act.put, List.setIfInBounds_toArray, List.set_cons_zero, List.set_cons_succ]
                                    refine LooseD.reads (.bool true) rfl rfl ?_ ?_
                                    · intro w hw
                                      obtain ⟨y1, y2, y3, y4, y5, y6⟩ := HF.out w hw
                                      clear hw
                                      go_simp
                                    try simp only [Act.put, List.setIfInBounds_toArray, List.set_cons_zero, List.set_cons_succ]
                                    refine LooseD.done ?_
                                    intro w8 hw8 _
                                    have HB8 := Lib.hid (HB.out.trans (hw8.mono HB.out.size))
                                    clear hw8
                                    have hw1 := HJ1.out
                                    go_wp2_with fail
                                    go_roundw
                                    case rel => exact ⟨j + 1, by omega, by rw [HTS.out], by go_num, HB8.out⟩
                                    case measure => simp [intOf]; omega
                                | false =>
                                  by_cases hte : tn = da
                                  · have heq : (tn.toList == da.toList) = true := by rw [str_list]; exact decide_eq_true hte
                                    have HTS := Lib.hid (show taughtBy r da db (j + 1) = hv by rw [hts, decide_eq_true hte]; cases hv <;> rfl)
                                    clear hts hte
                                    as_aux_lemma =>
                                      refine LooseD.region_loose (fun w => Below wr.heap.size wr w) _ _ (by kernel_rfl) (by kernel_rfl)
                                        (LooseD.waits (D := [[], [], [], [], [], [], [], [], [], [], [], [], [], [], [], [], [], [], [], [], [], [], [], [], [], [], [], [], [], []]) (by kernel_rfl))
                                        (LooseD.stays (ts := [none, none, none, none, none, none, none, none, none, none, none, none, none, none, none, none, none, none, none, none, none, none, none, none, none, none, some (.is (.bool hv)), none, none, none]) (fun w w' h b => h.trans (b.mono h.size)) (.none (.none (.none (.none (.none (.none (.none (.none (.none (.none (.none (.none (.none (.none (.none (.none (.none (.none (.none (.none (.none (.none (.none (.none (.none (.none (.is (.none (.none (.none .nil)))))))))))))))))))))))))))))))
                                        (Gn.below_drew (Below.refl _ _)) ?_
                                      refine LooseD.reads (.bool false) rfl rfl ?_ ?_
                                      · intro w hw
                                        obtain ⟨y1, y2, y3, y4, y5, y6⟩ := HF.out w hw
                                        clear hw
                                        go_simp
                                      try simp only [Act.put, List.setIfInBounds_toArray, List.set_cons_zero, List.set_cons_succ]
                                      refine LooseD.reads (.bool false) rfl rfl ?_ ?_
                                      · intro w hw
                                        obtain ⟨y1, y2, y3, y4, y5, y6⟩ := HF.out w hw
                                        clear hw
                                        go_simp
                                      try simp only [Act.put, List.setIfInBounds_toArray, List.set_cons_zero, List.set_cons_succ]
                                      refine LooseD.reads (.pointer (some ⟨C, 1, none⟩)) rfl rfl ?_ ?_
                                      · intro w hw
                                        obtain ⟨y1, y2, y3, y4, y5, y6⟩ := HF.out w hw
                                        clear hw
                                        go_simp
                                      try simp only [Act.put, List.setIfInBounds_toArray, List.set_cons_zero, List.set_cons_succ]
                                      refine LooseD.reads (.slice (some ⟨g4, 0, none⟩) n2 c4) rfl rfl ?_ ?_
                                      · intro w hw
                                        obtain ⟨y1, y2, y3, y4, y5, y6⟩ := HF.out w hw
                                        clear hw
                                        go_simp
                                      try simp only [Act.put, List.setIfInBounds_toArray, List.set_cons_zero, List.set_cons_succ]
                                      refine LooseD.reads (.int .i64 j) rfl rfl ?_ ?_
                                      · intro w hw
                                        obtain ⟨y1, y2, y3, y4, y5, y6⟩ := HF.out w hw
                                        clear hw
                                        go_simp
                                      try simp only [Act.put, List.setIfInBounds_toArray, List.set_cons_zero, List.set_cons_succ]
                                      refine LooseD.reads (.pointer (some ⟨g4, j * 3, none⟩)) rfl rfl ?_ ?_
                                      · intro w hw
                                        obtain ⟨y1, y2, y3, y4, y5, y6⟩ := HF.out w hw
                                        clear hw
                                        go_simp
                                      try simp only [Act.put, List.setIfInBounds_toArray, List.set_cons_zero, List.set_cons_succ]
                                      refine LooseD.reads (.pointer (some ⟨g4, j * 3 + 1, none⟩)) rfl rfl ?_ ?_
                                      · intro w hw
                                        obtain ⟨y1, y2, y3, y4, y5, y6⟩ := HF.out w hw
                                        clear hw
                                        go_simp
                                      try simp only [Act.put, List.setIfInBounds_toArray, List.set_cons_zero, List.set_cons_succ]
                                      refine LooseD.reads (.string tn) rfl rfl ?_ ?_
                                      · intro w hw
                                        obtain ⟨y1, y2, y3, y4, y5, y6⟩ := HF.out w hw
                                        clear hw
                                        go_simp
                                      try simp only [Act.put, List.setIfInBounds_toArray, List.set_cons_zero, List.set_cons_succ]
                                      refine LooseD.reads (.slice (some ⟨bk, off, none⟩) L cap) rfl rfl ?_ ?_
                                      · intro w hw
                                        obtain ⟨y1, y2, y3, y4, y5, y6⟩ := HF.out w hw
                                        clear hw
                                        go_simp
                                      try simp only [Act.put, List.setIfInBounds_toArray, List.set_cons_zero, List.set_cons_succ]
                                      refine LooseD.reads (.int .i64 k) rfl rfl ?_ ?_
                                      · intro w hw
                                        obtain ⟨y1, y2, y3, y4, y5, y6⟩ := HF.out w hw
                                        clear hw
                                        go_simp
                                      try simp only [Act.put, List.setIfInBounds_toArray, List.set_cons_zero, List.set_cons_succ]
                                      refine LooseD.reads (.pointer (some ⟨bk, off + k * 4, none⟩)) rfl rfl ?_ ?_
                                      · intro w hw
                                        obtain ⟨y1, y2, y3, y4, y5, y6⟩ := HF.out w hw
                                        clear hw
                                        go_simp
                                      try simp only [Act.put, List.setIfInBounds_toArray, List.set_cons_zero, List.set_cons_succ]
                                      refine LooseD.reads (.pointer (some ⟨bk, off + k * 4 + 1, none⟩)) rfl rfl ?_ ?_
                                      · intro w hw
                                        obtain ⟨y1, y2, y3, y4, y5, y6⟩ := HF.out w hw
                                        clear hw
                                        go_simp
                                      try simp only [Act.put, List.setIfInBounds_toArray, List.set_cons_zero, List.set_cons_succ]
                                      refine LooseD.reads (.string da) rfl rfl ?_ ?_
                                      · intro w hw
                                        obtain ⟨y1, y2, y3, y4, y5, y6⟩ := HF.out w hw
                                        clear hw
                                        go_simp
                                      try simp only [Act.put, List.setIfInBounds_toArray, List.set_cons_zero, List.set_cons_succ]
                                      refine LooseD.reads (.bool true) rfl rfl ?_ ?_
                                      · intro w hw
                                        obtain ⟨y1, y2, y3, y4, y5, y6⟩ := HF.out w hw
                                        clear hw
                                        go_simp
                                      try simp only [Act.put, List.setIfInBounds_toArray, List.set_cons_zero, List.set_cons_succ]
                                      refine LooseD.reads (.bool true) rfl rfl ?_ ?_
                                      · intro w hw
                                        obtain ⟨y1, y2, y3, y4, y5, y6⟩ := HF.out w hw
                                        clear hw
                                        go_simp
                                      try simp only [Act.put, List.setIfInBounds_toArray, List.set_cons_zero, List.set_cons_succ]
                                      refine LooseD.reads (.pointer (some ⟨C, 1, none⟩)) rfl rfl ?_ ?_
                                      · intro w hw
                                        obtain ⟨y1, y2, y3, y4, y5, y6⟩ := HF.out w hw
                                        clear hw
                                        go_simp
                                      try simp only [Act.put, List.setIfInBounds_toArray, List.set_cons_zero, List.set_cons_succ]
                                      refine LooseD.reads (.slice (some ⟨g4, 0, none⟩) n2 c4) rfl rfl ?_ ?_
                                      · intro w hw
                                        obtain ⟨y1, y2, y3, y4, y5, y6⟩ := HF.out w hw
                                        clear hw
                                        go_simp
                                      try simp only [Act.put, List.setIfInBounds_toArray, List.set_cons_zero, List.set_cons_succ]
                                      refine LooseD.reads (.int .i64 j) rfl rfl ?_ ?_
                                      · intro w hw
                                        obtain ⟨y1, y2, y3, y4, y5, y6⟩ := HF.out w hw
                                        clear hw
                                        go_simp
                                      try simp only [Act.put, List.setIfInBounds_toArray, List.set_cons_zero, List.set_cons_succ]
                                      refine LooseD.reads (.pointer (some ⟨g4, j * 3, none⟩)) rfl rfl ?_ ?_
                                      · intro w hw
                                        obtain ⟨y1, y2, y3, y4, y5, y6⟩ := HF.out w hw
                                        clear hw
                                        go_simp
                                      try simp only [Act.put, List.setIfInBounds_toArray, List.set_cons_zero, List.set_cons_succ]
                                      refine LooseD.reads (.pointer (some ⟨g4, j * 3 + 2, none⟩)) rfl rfl ?_ ?_
                                      · intro w hw
                                        obtain ⟨y1, y2, y3, y4, y5, y6⟩ := HF.out w hw
                                        clear hw
                                        go_simp
                                      try simp only [Act.put, List.setIfInBounds_toArray, List.set_cons_zero, List.set_cons_succ]
                                      refine LooseD.reads (.slice A6 sl c6) rfl rfl ?_ ?_
                                      · intro w hw
                                        obtain ⟨y1, y2, y3, y4, y5, y6⟩ := HF.out w hw
                                        clear hw
                                        go_simp
                                      try simp only [Act.put, List.setIfInBounds_toArray, List.set_cons_zero, List.set_cons_succ]
                                      refine LooseD.reads (.slice (some ⟨bk, off, none⟩) L cap) rfl rfl ?_ ?_
                                      · intro w hw
                                        obtain ⟨y1, y2, y3, y4, y5, y6⟩ := HF.out w hw
                                        clear hw
                                        go_simp
                                      try simp only [Act.put, List.setIfInBounds_toArray, List.set_cons_zero, List.set_cons_succ]
                                      refine LooseD.reads (.int .i64 k) rfl rfl ?_ ?_
                                      · intro w hw
                                        obtain ⟨y1, y2, y3, y4, y5, y6⟩ := HF.out w hw
                                        clear hw
                                        go_simp
                                      try simp only [Act.put, List.setIfInBounds_toArray, List.set_cons_zero, List.set_cons_succ]
                                      refine LooseD.reads (.pointer (some ⟨bk, off + k * 4, none⟩)) rfl rfl ?_ ?_
                                      · intro w hw
                                        obtain ⟨y1, y2, y3, y4, y5, y6⟩ := HF.out w hw
                                        clear hw
                                        go_simp
                                      try simp only [Act.put, List.setIfInBounds_toArray, List.set_cons_zero, List.set_cons_succ]
                                      refine LooseD.reads (.pointer (some ⟨bk, off + k * 4 + 2, none⟩)) rfl rfl ?_ ?_
                                      · intro w hw
                                        obtain ⟨y1, y2, y3, y4, y5, y6⟩ := HF.out w hw
                                        clear hw
                                        go_simp
                                      try simp only [Act.put, List.setIfInBounds_toArray, List.set_cons_zero, List.set_cons_succ]
                                      refine LooseD.reads (.string db) rfl rfl ?_ ?_
                                      · intro w hw
                                        obtain ⟨y1, y2, y3, y4, y5, y6⟩ := HF.out w hw
                                        clear hw
                                        go_simp
                                      try simp only [Act.put, List.setIfInBounds_toArray, List.set_cons_zero, List.set_cons_succ]
                                      refine LooseD.gives (.bool hv) 16 #[.slice A6 sl c6, .string db] rfl rfl ?_ (fun w hw hH => HIN7.out w hw) ?_
                                      · intro w hw
                                        obtain ⟨y1, y2, y3, y4, y5, y6⟩ := HF.out w hw
                                        clear hw
                                        go_simp
                                      try simp only [Act.put, List.setIfInBounds_toArray, List.set_cons_zero, List.set_cons_succ]
                                      refine LooseD.reads (.bool hv) rfl rfl ?_ ?_
                                      · intro w hw
                                        obtain ⟨y1, y2, y3, y4, y5, y6⟩ := HF.out w hw
                                        clear hw
                                        go_simp
                                      try simp only [Act.put, List.setIfInBounds_toArray, List.set_cons_zero, List.set_cons_succ]
                                      refine LooseD.reads (.bool hv) rfl rfl ?_ ?_
                                      · intro w hw
                                        obtain ⟨y1, y2, y3, y4, y5, y6⟩ := HF.out w hw
                                        clear hw
                                        go_simp
                                      try simp only [Act.put, List.setIfInBounds_toArray, List.set_cons_zero, List.set_cons_succ]
                                      refine LooseD.reads (.bool hv) rfl rfl ?_ ?_
                                      · intro w hw
                                        obtain ⟨y1, y2, y3, y4, y5, y6⟩ := HF.out w hw
                                        clear hw
                                        go_simp
                                      try simp only [Act.put, List.setIfInBounds_toArray, List.set_cons_zero, List.set_cons_succ]
                                      refine LooseD.done ?_
                                      intro w8 hw8 _
                                      have HB8 := Lib.hid (HB.out.trans (hw8.mono HB.out.size))
                                      clear hw8
                                      have hw1 := HJ1.out
                                      go_wp2_with fail
                                      go_roundw
                                      case rel => exact ⟨j + 1, by omega, by rw [HTS.out], by go_num, HB8.out⟩
                                      case measure => simp [intOf]; omega
                                  · have heq : (tn.toList == da.toList) = false := by rw [str_list]; exact decide_eq_false hte
                                    have HTS := Lib.hid (show taughtBy r da db (j + 1) = false by rw [hts, decide_eq_false hte]; rfl)
                                    clear hts hte
                                    as_aux_lemma =>
                                      refine LooseD.region_loose (fun w => Below wr.heap.size wr w) _ _ (by kernel_rfl) (by kernel_rfl)
                                        (LooseD.waits (D := [[], [], [], [], [], [], [], [], [], [], [], [], [], [], [], [], [], [], [], [], [], [], [], [], [], [], [], [], [], []]) (by kernel_rfl))
                                        (LooseD.stays (ts := [none, none, none, none, none, none, none, none, none, none, none, none, none, none, none, none, none, none, none, none, none, none, none, none, none, none, none, none, none, none]) (fun w w' h b => h.trans (b.mono h.size)) (.none (.none (.none (.none (.none (.none (.none (.none (.none (.none (.none (.none (.none (.none (.none (.none (.none (.none (.none (.none (.none (.none (.none (.none (.none (.none (.none (.none (.none (.none .nil)))))))))))))))))))))))))))))))
                                        (Gn.below_drew (Below.refl _ _)) ?_
                                      refine LooseD.reads (.bool false) rfl rfl ?_ ?_
                                      · intro w hw
                                        obtain ⟨y1, y2, y3, y4, y5, y6⟩ := HF.out w hw
                                        clear hw
                                        go_simp
                                      try simp only [Act.put, List.setIfInBounds_toArray, List.set_cons_zero, List.set_cons_succ]
                                      refine LooseD.reads (.bool false) rfl rfl ?_ ?_
                                      · intro w hw
                                        obtain ⟨y1, y2, y3, y4, y5, y6⟩ := HF.out w hw
                                        clear hw
                                        go_simp
                                      try simp only [Act.put, List.setIfInBounds_toArray, List.set_cons_zero, List.set_cons_succ]
                                      refine LooseD.reads (.pointer (some ⟨C, 1, none⟩)) rfl rfl ?_ ?_
                                      · intro w hw
                                        obtain ⟨y1, y2, y3, y4, y5, y6⟩ := HF.out w hw
                                        clear hw
                                        go_simp
                                      try simp only [Act.put, List.setIfInBounds_toArray, List.set_cons_zero, List.set_cons_succ]
                                      refine LooseD.reads (.slice (some ⟨g4, 0, none⟩) n2 c4) rfl rfl ?_ ?_
                                      · intro w hw
                                        obtain ⟨y1, y2, y3, y4, y5, y6⟩ := HF.out w hw
                                        clear hw
                                        go_simp
                                      try simp only [Act.put, List.setIfInBounds_toArray, List.set_cons_zero, List.set_cons_succ]
                                      refine LooseD.reads (.int .i64 j) rfl rfl ?_ ?_
                                      · intro w hw
                                        obtain ⟨y1, y2, y3, y4, y5, y6⟩ := HF.out w hw
                                        clear hw
                                        go_simp
                                      try simp only [Act.put, List.setIfInBounds_toArray, List.set_cons_zero, List.set_cons_succ]
                                      refine LooseD.reads (.pointer (some ⟨g4, j * 3, none⟩)) rfl rfl ?_ ?_
                                      · intro w hw
                                        obtain ⟨y1, y2, y3, y4, y5, y6⟩ := HF.out w hw
                                        clear hw
                                        go_simp
                                      try simp only [Act.put, List.setIfInBounds_toArray, List.set_cons_zero, List.set_cons_succ]
                                      refine LooseD.reads (.pointer (some ⟨g4, j * 3 + 1, none⟩)) rfl rfl ?_ ?_
                                      · intro w hw
                                        obtain ⟨y1, y2, y3, y4, y5, y6⟩ := HF.out w hw
                                        clear hw
                                        go_simp
                                      try simp only [Act.put, List.setIfInBounds_toArray, List.set_cons_zero, List.set_cons_succ]
                                      refine LooseD.reads (.string tn) rfl rfl ?_ ?_
                                      · intro w hw
                                        obtain ⟨y1, y2, y3, y4, y5, y6⟩ := HF.out w hw
                                        clear hw
                                        go_simp
                                      try simp only [Act.put, List.setIfInBounds_toArray, List.set_cons_zero, List.set_cons_succ]
                                      refine LooseD.reads (.slice (some ⟨bk, off, none⟩) L cap) rfl rfl ?_ ?_
                                      · intro w hw
                                        obtain ⟨y1, y2, y3, y4, y5, y6⟩ := HF.out w hw
                                        clear hw
                                        go_simp
                                      try simp only [Act.put, List.setIfInBounds_toArray, List.set_cons_zero, List.set_cons_succ]
                                      refine LooseD.reads (.int .i64 k) rfl rfl ?_ ?_
                                      · intro w hw
                                        obtain ⟨y1, y2, y3, y4, y5, y6⟩ := HF.out w hw
                                        clear hw
                                        go_simp
                                      try simp only [Act.put, List.setIfInBounds_toArray, List.set_cons_zero, List.set_cons_succ]
                                      refine LooseD.reads (.pointer (some ⟨bk, off + k * 4, none⟩)) rfl rfl ?_ ?_
                                      · intro w hw
                                        obtain ⟨y1, y2, y3, y4, y5, y6⟩ := HF.out w hw
                                        clear hw
                                        go_simp
                                      try simp only [Act.put, List.setIfInBounds_toArray, List.set_cons_zero, List.set_cons_succ]
                                      refine LooseD.reads (.pointer (some ⟨bk, off + k * 4 + 1, none⟩)) rfl rfl ?_ ?_
                                      · intro w hw
                                        obtain ⟨y1, y2, y3, y4, y5, y6⟩ := HF.out w hw
                                        clear hw
                                        go_simp
                                      try simp only [Act.put, List.setIfInBounds_toArray, List.set_cons_zero, List.set_cons_succ]
                                      refine LooseD.reads (.string da) rfl rfl ?_ ?_
                                      · intro w hw
                                        obtain ⟨y1, y2, y3, y4, y5, y6⟩ := HF.out w hw
                                        clear hw
                                        go_simp
                                      try simp only [Act.put, List.setIfInBounds_toArray, List.set_cons_zero, List.set_cons_succ]
                                      refine LooseD.reads (.bool false) rfl rfl ?_ ?_
                                      · intro w hw
                                        obtain ⟨y1, y2, y3, y4, y5, y6⟩ := HF.out w hw
                                        clear hw
                                        go_simp
                                      try simp only [Act.put, List.setIfInBounds_toArray, List.set_cons_zero, List.set_cons_succ]
                                      refine LooseD.reads (.bool false) rfl rfl ?_ ?_
                                      · intro w hw
                                        obtain ⟨y1, y2, y3, y4, y5, y6⟩ := HF.out w hw
                                        clear hw
                                        go_simp
                                      try simp only [Act.put, List.setIfInBounds_toArray, List.set_cons_zero, List.set_cons_succ]
                                      refine LooseD.unwanted rfl ?_
                                      try simp only [Act.put, List.setIfInBounds_toArray, List.set_cons_zero, List.set_cons_succ]
                                      refine LooseD.unwanted rfl ?_
                                      try simp only [Act.put, List.setIfInBounds_toArray, List.set_cons_zero, List.set_cons_succ]
                                      refine LooseD.unwanted rfl ?_
                                      try simp only [Act.put, List.setIfInBounds_toArray, List.set_cons_zero, List.set_cons_succ]
                                      refine LooseD.unwanted rfl ?_
                                      try simp only [Act.put, List.setIfInBounds_toArray, List.set_cons_zero, List.set_cons_succ]
                                      refine LooseD.unwanted rfl ?_
                                      try simp only [Act.put, List.setIfInBounds_toArray, List.set_cons_zero, List.set_cons_succ]
                                      refine LooseD.unwanted rfl ?_
                                      try simp only [Act.put, List.setIfInBounds_toArray, List.set_cons_zero, List.set_cons_succ]
                                      refine LooseD.unwanted rfl ?_
                                      try simp only [Act.put, List.setIfInBounds_toArray, List.set_cons_zero, List.set_cons_succ]
                                      refine LooseD.unwanted rfl ?_
                                      try simp only [Act.put, List.setIfInBounds_toArray, List.set_cons_zero, List.set_cons_succ]
                                      refine LooseD.unwanted rfl ?_
                                      try simp only [Act.put, List.setIfInBounds_toArray, List.set_cons_zero, List.set_cons_succ]
                                      refine LooseD.unwanted rfl ?_
                                      try simp only [Act.put, List.setIfInBounds_toArray, List.set_cons_zero, List.set_cons_succ]
                                      refine LooseD.unwanted rfl ?_
                                      try simp only [Act.put, List.setIfInBounds_toArray, List.set_cons_zero, List.set_cons_succ]
                                      refine LooseD.unwanted rfl ?_
                                      try simp only [Act.put, List.setIfInBounds_toArray, List.set_cons_zero, List.set_cons_succ]
                                      refine LooseD.reads (.bool false) rfl rfl ?_ ?_
                                      · intro w hw
                                        obtain ⟨y1, y2, y3, y4, y5, y6⟩ := HF.out w hw
                                        clear hw
                                        go_simp
                                      try simp only [Act.put, List.setIfInBounds_toArray, List.set_cons_zero, List.set_cons_succ]
                                      refine LooseD.reads (.bool false) rfl rfl ?_ ?_
                                      · intro w hw
                                        obtain ⟨y1, y2, y3, y4, y5, y6⟩ := HF.out w hw
                                        clear hw
                                        go_simp
                                      try simp only [Act.put, List.setIfInBounds_toArray, List.set_cons_zero, List.set_cons_succ]
                                      refine LooseD.reads (.bool false) rfl rfl ?_ ?_
                                      · intro w hw
                                        obtain ⟨y1, y2, y3, y4, y5, y6⟩ := HF.out w hw
                                        clear hw
                                        go_simp
                                      try simp only [Act.put, List.setIfInBounds_toArray, List.set_cons_zero, List.set_cons_succ]
                                      refine LooseD.done ?_
                                      intro w8 hw8 _
                                      have HB8 := Lib.hid (HB.out.trans (hw8.mono HB.out.size))
                                      clear hw8
                                      have hw1 := HJ1.out
                                      go_wp2_with fail
                                      go_roundw
                                      case rel => exact ⟨j + 1, by omega, by rw [HTS.out], by go_num, HB8.out⟩
                                      case measure => simp [intOf]; omega
                              · have hlt2 : ¬ (j : Int) < (n2 : Int) := by omega
                                have htf : tb = teachesM r da db := by rw [HTB.out]; exact taught_all r da db j (by rw [← HN2.out]; omega)
                                have HTE7 := Lib.hid (fun (w : World) (b : Below wr.heap.size wr w) => HTE.out w ((HK2.out.under HB.out).under b))
                                rw [← htf] at HTE7
                                have HF := Lib.hid (fun (w' : World) (b : Below wr.heap.size wr w') => show w'.cell? ⟨B, 0, none⟩ = some (.slice A1 n1 c1) ∧ w'.cell? ⟨B, 1, none⟩ = some (.slice A2 n2 c2) ∧ w'.cell? ⟨bk, off + k * 4 + 1, none⟩ = some (.string da) ∧ w'.cell? ⟨bk, off + k * 4 + 2, none⟩ = some (.string db) from by
                                  obtain ⟨z1, z2, z3, z4⟩ := ((HK2.out.under HB.out).under b).cells
                                  obtain ⟨x1, x2, x3, x4⟩ := HQ.out w' ((HK2.out.under HB.out).under b).bel
                                  exact ⟨z1, z2, x2, x3⟩)
                                clear htf b0 b1 b2
                                go_upto_region 31 with fail
                                clear b3
                                as_aux_lemma =>
                                  refine LooseD.region_loose (fun w => Below wr.heap.size wr w) _ _ (by kernel_rfl) (by kernel_rfl)
                                    (LooseD.waits (D := [[], [], [], [], [], [], [], [], [], [], [], [], [], []]) (by kernel_rfl))
                                    (LooseD.stays (ts := [none, none, none, none, none, none, none, none, none, none, none, some (.is (.bool tb)), none, none]) (fun w w' h b => h.trans (b.mono h.size)) (.none (.none (.none (.none (.none (.none (.none (.none (.none (.none (.none (.is (.none (.none .nil)))))))))))))))
                                    (Gn.below_drew (Below.refl _ _)) ?_
                                  refine LooseD.reads (.agg #[.slice A1 n1 c1, .slice A2 n2 c2]) rfl rfl ?_ ?_
                                  · intro w hw
                                    obtain ⟨y1, y2, y3, y4⟩ := HF.out w hw
                                    clear hw
                                    go_simp
                                  try simp only [Act.put, List.setIfInBounds_toArray, List.set_cons_zero, List.set_cons_succ]
                                  refine LooseD.reads (.slice (some ⟨bk, off, none⟩) L cap) rfl rfl ?_ ?_
                                  · intro w hw
                                    obtain ⟨y1, y2, y3, y4⟩ := HF.out w hw
                                    clear hw
                                    go_simp
                                  try simp only [Act.put, List.setIfInBounds_toArray, List.set_cons_zero, List.set_cons_succ]
                                  refine LooseD.reads (.int .i64 k) rfl rfl ?_ ?_
                                  · intro w hw
                                    obtain ⟨y1, y2, y3, y4⟩ := HF.out w hw
                                    clear hw
                                    go_simp
                                  try simp only [Act.put, List.setIfInBounds_toArray, List.set_cons_zero, List.set_cons_succ]
                                  refine LooseD.reads (.pointer (some ⟨bk, off + k * 4, none⟩)) rfl rfl ?_ ?_
                                  · intro w hw
                                    obtain ⟨y1, y2, y3, y4⟩ := HF.out w hw
                                    clear hw
                                    go_simp
                                  try simp only [Act.put, List.setIfInBounds_toArray, List.set_cons_zero, List.set_cons_succ]
                                  refine LooseD.reads (.pointer (some ⟨bk, off + k * 4 + 1, none⟩)) rfl rfl ?_ ?_
                                  · intro w hw
                                    obtain ⟨y1, y2, y3, y4⟩ := HF.out w hw
                                    clear hw
                                    go_simp
                                  try simp only [Act.put, List.setIfInBounds_toArray, List.set_cons_zero, List.set_cons_succ]
                                  refine LooseD.reads (.string da) rfl rfl ?_ ?_
                                  · intro w hw
                                    obtain ⟨y1, y2, y3, y4⟩ := HF.out w hw
                                    clear hw
                                    go_simp
                                  try simp only [Act.put, List.setIfInBounds_toArray, List.set_cons_zero, List.set_cons_succ]
                                  refine LooseD.reads (.slice (some ⟨bk, off, none⟩) L cap) rfl rfl ?_ ?_
                                  · intro w hw
                                    obtain ⟨y1, y2, y3, y4⟩ := HF.out w hw
                                    clear hw
                                    go_simp
                                  try simp only [Act.put, List.setIfInBounds_toArray, List.set_cons_zero, List.set_cons_succ]
                                  refine LooseD.reads (.int .i64 k) rfl rfl ?_ ?_
                                  · intro w hw
                                    obtain ⟨y1, y2, y3, y4⟩ := HF.out w hw
                                    clear hw
                                    go_simp
                                  try simp only [Act.put, List.setIfInBounds_toArray, List.set_cons_zero, List.set_cons_succ]
                                  refine LooseD.reads (.pointer (some ⟨bk, off + k * 4, none⟩)) rfl rfl ?_ ?_
                                  · intro w hw
                                    obtain ⟨y1, y2, y3, y4⟩ := HF.out w hw
                                    clear hw
                                    go_simp
                                  try simp only [Act.put, List.setIfInBounds_toArray, List.set_cons_zero, List.set_cons_succ]
                                  refine LooseD.reads (.pointer (some ⟨bk, off + k * 4 + 2, none⟩)) rfl rfl ?_ ?_
                                  · intro w hw
                                    obtain ⟨y1, y2, y3, y4⟩ := HF.out w hw
                                    clear hw
                                    go_simp
                                  try simp only [Act.put, List.setIfInBounds_toArray, List.set_cons_zero, List.set_cons_succ]
                                  refine LooseD.reads (.string db) rfl rfl ?_ ?_
                                  · intro w hw
                                    obtain ⟨y1, y2, y3, y4⟩ := HF.out w hw
                                    clear hw
                                    go_simp
                                  try simp only [Act.put, List.setIfInBounds_toArray, List.set_cons_zero, List.set_cons_succ]
                                  refine LooseD.gives (.bool tb) 17 #[.agg #[.slice A1 n1 c1, .slice A2 n2 c2], .string da, .string db] rfl rfl ?_ (fun w hw hH => HTE7.out w hw) ?_
                                  · intro w hw
                                    obtain ⟨y1, y2, y3, y4⟩ := HF.out w hw
                                    clear hw
                                    go_simp
                                  try simp only [Act.put, List.setIfInBounds_toArray, List.set_cons_zero, List.set_cons_succ]
                                  refine LooseD.reads (.bool tb) rfl rfl ?_ ?_
                                  · intro w hw
                                    obtain ⟨y1, y2, y3, y4⟩ := HF.out w hw
                                    clear hw
                                    go_simp
                                  try simp only [Act.put, List.setIfInBounds_toArray, List.set_cons_zero, List.set_cons_succ]
                                  refine LooseD.reads (.bool false) rfl rfl ?_ ?_
                                  · intro w hw
                                    obtain ⟨y1, y2, y3, y4⟩ := HF.out w hw
                                    clear hw
                                    go_simp
                                  try simp only [Act.put, List.setIfInBounds_toArray, List.set_cons_zero, List.set_cons_succ]
                                  refine LooseD.done ?_
                                  intro w8 hw8 _
                                  have HK8 := Lib.hid ((HK2.out.under HB.out).under hw8)
                                  clear hw8
                                  have hw1 := HW1.out
                                  go_wp2_with fail
                                  go_roundw
                                  case rel => exact ⟨k + 1, r, _, _, _, _, by omega, by omega, by go_num, HIN.out, HOK.out, HK8.out⟩
                                  case measure => simp [intOf]; omega
      · have h402 : ¬ (k : Int) < 40 := by omega
        go_wp2_with fail
        go_ret
        exact ⟨rfl, HK.out.bel⟩
    · have hlt2 : ¬ (k : Int) < (L : Int) := by omega
      go_wp2_with fail
      go_ret
      exact ⟨rfl, HK.out.bel⟩
end Go.Proofs.YtnmhgjoofgmcgaaGreat.Rl
