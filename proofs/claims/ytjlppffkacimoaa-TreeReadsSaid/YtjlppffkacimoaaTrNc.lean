/-
  Layer 14: the walk of the document's Next.
-/
import Derived.Test.YtjlppffkacimoaaTrNp
import Derived.Deep.DeepCutAuto
namespace Go.Proofs.Ytjlppffkacimoaa.Tr
open Go.RowKit
open Gn (Asks Sep)
open Oct (gb bs three rget_any)
open Fx (IntsAt StrsAt Prd PG PrdsAt PgAt own_of_block own_base cells2 cells2_at)
set_option maxRecDepth 100000
set_option linter.unusedSimpArgs false
set_option linter.unusedVariables false
set_option maxHeartbeats 32000000 in
theorem next_some (g : PG) (hf : Fit g) (hsd : ∀ n, (sideT g n).length ≤ 1099511627776) (f : Nat) (hIH : NextCtr g f) (Q : Nat → Prop) (W : World) (k : Nat) (An At_ Ap : Option Addr) (cn ct cp : Nat) (B : ByteArray) (a nd : Nat) (h1 : nd ≤ a) (h2 : a ≤ B.size) (h3 : B.size ≤ 500) (h4 : 65537 ≤ f + 1 + nd) (h : NxAt Q W k g An At_ Ap cn ct cp B a nd 0) (hold : ∀ r, Q r → r < W.heap.size) (o : Option Int) (ho : o.isSome = true) :
    Calls Try.prog 50 #[.agg #[.int .i64 g.start, .int .i64 g.rules, .slice An g.names.length cn, .slice At_ g.terms.length ct, .slice Ap g.prods.length cp], .pointer (some ⟨k, 0, none⟩), .int .i64 (wantO o), .bool o.isSome] W (NxOut Q W k g An At_ Ap cn ct cp B nd (treeR g (f + 1) o ((bs B).drop a) nd)) := by
    have IH := Lib.hid hIH
    have HO := Lib.hid ho
    clear hIH ho
    obtain ⟨i0, hi0, hz0, hz1, hz2⟩ := info_parts dinfo
    obtain ⟨V, hV⟩ : ∃ V, V = (W.alloc (.cells #[.int .i64 g.start, .int .i64 g.rules, .slice An g.names.length cn, .slice At_ g.terms.length ct, .slice Ap g.prods.length cp] 34)).alloc (.cells #[.int .i64 0, .slice none 0 0] 43) := ⟨_, rfl⟩
    have hb0 : Below W.heap.size W V := by rw [hV]; exact ((Below.refl _ W).alloc (Nat.le_refl _) _).alloc (by simp) _
    have hx0 : V.heap[W.heap.size]? = some (.cells #[.int .i64 g.start, .int .i64 g.rules, .slice An g.names.length cn, .slice At_ g.terms.length ct, .slice Ap g.prods.length cp] 34 (0, 0)) := by rw [hV]; exact (heap_alloc_old _ _ (by simp)).trans (heap_alloc_new W _)
    have hx1 : V.heap[W.heap.size + 1]? = some (.cells #[.int .i64 0, .slice none 0 0] 43 (0, 0)) := by
      rw [hV]; have := heap_alloc_new (W.alloc (.cells #[.int .i64 g.start, .int .i64 g.rules, .slice An g.names.length cn, .slice At_ g.terms.length ct, .slice Ap g.prods.length cp] 34)) (.cells #[.int .i64 0, .slice none 0 0] 43); simpa using this
    have hVz : V.heap.size = W.heap.size + 2 := by rw [hV]; simp
    have hnx := h.under hb0
    have c0 := cell_of_row _ _ 0 _ _ (0, 0) hnx.box
    have c1 := cell_of_row _ _ 1 _ _ (0, 0) hnx.box
    have c3 := cell_of_row _ _ 3 _ _ (0, 0) hnx.box
    have hbu : bs (B.extract a B.size) = (bs B).drop a := Lib.extract_to_end B a
    have hus : (bs (B.extract a B.size)).length = B.size - a := by rw [hbu, List.length_drop]; rfl
    have hHKG := fun w => rget_any (B.extract a B.size) w (by have h9 : (B.extract a B.size).size = (bs (B.extract a B.size)).length := rfl; omega)
    obtain ⟨hn1, hn2⟩ := gb_num (bs (B.extract a B.size))
    have hgb := gb_back (bs (B.extract a B.size))
    have hge := gbe_le (bs (B.extract a B.size))
    have hdr : ∀ j, (bs (B.extract a B.size)).drop j = (bs B).drop (a + j) := fun j => by rw [hbu, List.drop_drop]
    obtain ⟨R, hR⟩ : ∃ R, R = treeR g (f + 1) o ((bs B).drop a) nd := ⟨_, rfl⟩
    rw [← hR]
    rw [← hbu, treeR] at hR
    obtain ⟨⟨n, j, c⟩, hq⟩ : ∃ q, gb (bs (B.extract a B.size)) = q := ⟨_, rfl⟩
    have hNR : nodeR g o (bs (B.extract a B.size)) nd = (if (if c = 0 then wrongT g o n else c) = 0 then .ok (n, j) else .error (if c = 0 then wrongT g o n else c)) := by
      unfold nodeR
      rw [hq]
      simp only
      rw [if_neg (show ¬ (nd = 65536 ∧ (if c = 0 then wrongT g o n else c) ≠ 10 ∧ (if c = 0 then wrongT g o n else c) ≠ 7) by omega)]
    rw [hNR] at hR
    rw [hq] at hHKG hn1 hn2 hgb hge
    unfold three at hHKG
    simp only at hHKG hn1 hn2 hgb hge
    rw [hus] at hgb
    have HKG := Lib.hid (fun (X : World) (hX : Below V.heap.size V X) => (hHKG X).mono fun e w' h => show e = .returned (.tuple #[.int .i64 n, .int .i64 (j : Int), .int .i64 (c : Int)]) ∧ Below V.heap.size V w' from ⟨h.1, hX.trans (h.2.mono hX.size)⟩)
    have HV := Lib.hid hV
    have HVZ := Lib.hid hVz
    have HB0 := Lib.hid hb0
    have HX0 := Lib.hid hx0
    have HX1 := Lib.hid hx1
    have HNX := Lib.hid hnx
    have HR := Lib.hid hR
    have HGB := Lib.hid hgb
    have HDR := Lib.hid hdr
    have HKL := Lib.hid (Gn.heap_lt h.box)
    have HOLD := Lib.hid hold
    have HNA := Lib.hid h1
    have HFU := Lib.hid h4
    have HB5 := Lib.hid h3
    have hsl := hsd n
    have HMK3 := Lib.hid (fun (w' : World) (b : Below V.heap.size V w') => show (fun w' : World => w'.cell? ⟨k, 0, none⟩ = some (.string B) ∧ w'.cell? ⟨k, 1, none⟩ = some (.int .i64 a)) w' from ⟨(b.cell (p := ⟨k, 0, none⟩) (Gn.heap_lt hnx.box)).trans c0, (b.cell (p := ⟨k, 1, none⟩) (Gn.heap_lt hnx.box)).trans c1⟩)
    obtain ⟨want, hwant⟩ : ∃ y, y = wantO o := ⟨_, rfl⟩
    obtain ⟨inner, hinner⟩ : ∃ y, y = o.isSome := ⟨_, rfl⟩
    rw [← hwant, ← hinner]
    have HWANT := Lib.hid hwant
    have HINNER := Lib.hid hinner
    have hnd50 : nd ≤ 500 := by omega
    clear h hold hV hb0 hx0 hx1 hVz hnx hbu hus hHKG hq hNR hR hgb hdr h1 h4 hwant hinner
    go_enter Try.func50, Try.ntmps50
    go_upto_region 1 with fail
    rw [← HV.out]
    go_upto_region 3 with fail
    clear c0 c1 c3
    refine wp_region_noPanic ?_
    refine wp_region_held_drew (S := (fun w' : World => w'.cell? ⟨k, 0, none⟩ = some (.string B) ∧ w'.cell? ⟨k, 1, none⟩ = some (.int .i64 a))) (by kernel_rfl) ?_ (fun hHeld => ?_)
    · exact HMK3.out _ (Gn.below_drew (Below.refl _ _))
    refine wpAnyH_take (i := 0) (v := ?_) rfl (by kernel_rfl) (by kernel_rfl) (by kernel_rfl) (fun _ _ _ h => h) (Or.inl ⟨by rfl, ?_⟩) (by assumption) ?_
    rotate_left
    · intro w hSw
      try dsimp only at hSw
      go_simp
      try with_reducible rfl
    try simp only [Act.put, List.setIfInBounds_toArray, List.set_cons_zero, List.set_cons_succ]
    refine wpAnyH_take (i := 1) (v := ?_) rfl (by kernel_rfl) (by kernel_rfl) (by kernel_rfl) (fun _ _ _ h => h) (Or.inl ⟨by rfl, ?_⟩) (by assumption) ?_
    rotate_left
    · intro w hSw
      try dsimp only at hSw
      go_simp
      try with_reducible rfl
    try simp only [Act.put, List.setIfInBounds_toArray, List.set_cons_zero, List.set_cons_succ]
    refine wpAnyH_take (i := 2) (v := ?_) rfl (by kernel_rfl) (by kernel_rfl) (by kernel_rfl) (fun _ _ _ h => h) (Or.inl ⟨by rfl, ?_⟩) (by assumption) ?_
    rotate_left
    · intro w hSw
      try dsimp only at hSw
      go_simp
      try with_reducible rfl
    try simp only [Act.put, List.setIfInBounds_toArray, List.set_cons_zero, List.set_cons_succ]
    refine wpAnyH_take (i := 3) (v := ?_) rfl (by kernel_rfl) (by kernel_rfl) (by kernel_rfl) (fun _ _ _ h => h) (Or.inl ⟨by rfl, ?_⟩) (by assumption) ?_
    rotate_left
    · intro w hSw
      try dsimp only at hSw
      go_simp
      try with_reducible rfl
    try simp only [Act.put, List.setIfInBounds_toArray, List.set_cons_zero, List.set_cons_succ]
    refine wpAnyH_take (i := 4) (v := ?_) rfl (by kernel_rfl) (by kernel_rfl) (by kernel_rfl) (fun _ _ _ h => h) (Or.inl ⟨by rfl, ?_⟩) (by assumption) ?_
    rotate_left
    · intro w hSw
      try dsimp only at hSw
      go_simp
      try with_reducible rfl
    try simp only [Act.put, List.setIfInBounds_toArray, List.set_cons_zero, List.set_cons_succ]
    refine wpAnyH_take (i := 5) (v := ?_) rfl (by kernel_rfl) (by kernel_rfl) (by kernel_rfl) (fun _ _ _ h => h) (Or.inl ⟨by rfl, ?_⟩) (by assumption) ?_
    rotate_left
    · intro w hSw
      try dsimp only at hSw
      go_simp
      try with_reducible rfl
    try simp only [Act.put, List.setIfInBounds_toArray, List.set_cons_zero, List.set_cons_succ]
    refine wpAnyH_take (i := 6) (v := ?_) rfl (by kernel_rfl) (by kernel_rfl) (by kernel_rfl) (fun _ _ _ h => h) (Or.inl ⟨by rfl, ?_⟩) (by assumption) ?_
    rotate_left
    · intro w hSw
      try dsimp only at hSw
      go_simp
      try with_reducible rfl
    try simp only [Act.put, List.setIfInBounds_toArray, List.set_cons_zero, List.set_cons_succ]
    refine wpAnyH_take (i := 7) (v := ?_) rfl (by kernel_rfl) (by kernel_rfl) (by kernel_rfl) (fun _ _ _ h => h) (Or.inl ⟨by rfl, ?_⟩) (by assumption) ?_
    rotate_left
    · intro w hSw
      try dsimp only at hSw
      go_simp
      try with_reducible rfl
    try simp only [Act.put, List.setIfInBounds_toArray, List.set_cons_zero, List.set_cons_succ]
    refine wpAnyH_take (i := 8) (v := ?_) rfl (by kernel_rfl) (by kernel_rfl) (by kernel_rfl) (fun _ _ _ h => h) (Or.inl ⟨by rfl, ?_⟩) (by assumption) ?_
    rotate_left
    · intro w hSw
      try dsimp only at hSw
      go_simp
      try with_reducible rfl
    try simp only [Act.put, List.setIfInBounds_toArray, List.set_cons_zero, List.set_cons_succ]
    refine wpAnyH_ready (rs := [9]) (by kernel_rfl) (by simp) ?_
    refine AllReadyH.cons rfl (fun K hK => ?_) AllReadyH.nil
    go_simp
    go_at_call 73
    refine (HKG.out _ (by first | exact Gn.below_drew (Below.refl _ _))).mono ?_
    rintro e w3 ⟨rfl, hb3⟩
    have HB3 := Lib.hid hb3
    clear hb3
    refine hK.out _ _ (HMK3.out _ HB3.out) (fun hHeld => ?_)
    clear hK K
    try simp only [Act.put, List.setIfInBounds_toArray, List.set_cons_zero, List.set_cons_succ]
    refine wpAnyH_take (i := 10) (v := ?_) rfl (by kernel_rfl) (by kernel_rfl) (by kernel_rfl) (fun _ _ _ h => h) (Or.inl ⟨by rfl, ?_⟩) (by assumption) ?_
    rotate_left
    · intro w hSw
      try dsimp only at hSw
      go_simp
      try with_reducible rfl
    try simp only [Act.put, List.setIfInBounds_toArray, List.set_cons_zero, List.set_cons_succ]
    refine wpAnyH_take (i := 11) (v := ?_) rfl (by kernel_rfl) (by kernel_rfl) (by kernel_rfl) (fun _ _ _ h => h) (Or.inl ⟨by rfl, ?_⟩) (by assumption) ?_
    rotate_left
    · intro w hSw
      try dsimp only at hSw
      go_simp
      try with_reducible rfl
    try simp only [Act.put, List.setIfInBounds_toArray, List.set_cons_zero, List.set_cons_succ]
    refine wpAnyH_take (i := 12) (v := ?_) rfl (by kernel_rfl) (by kernel_rfl) (by kernel_rfl) (fun _ _ _ h => h) (Or.inl ⟨by rfl, ?_⟩) (by assumption) ?_
    rotate_left
    · intro w hSw
      try dsimp only at hSw
      go_simp
      try with_reducible rfl
    try simp only [Act.put, List.setIfInBounds_toArray, List.set_cons_zero, List.set_cons_succ]
    refine wpAnyH_take (i := 13) (v := ?_) rfl (by kernel_rfl) (by kernel_rfl) (by kernel_rfl) (fun _ _ _ h => h) (Or.inl ⟨by rfl, ?_⟩) (by assumption) ?_
    rotate_left
    · intro w hSw
      try dsimp only at hSw
      go_simp
      try with_reducible rfl
    try simp only [Act.put, List.setIfInBounds_toArray, List.set_cons_zero, List.set_cons_succ]
    refine wpAnyH_take (i := 14) (v := ?_) rfl (by kernel_rfl) (by kernel_rfl) (by kernel_rfl) (fun _ _ _ h => h) (Or.inl ⟨by rfl, ?_⟩) (by assumption) ?_
    rotate_left
    · intro w hSw
      try dsimp only at hSw
      go_simp
      try with_reducible rfl
    try simp only [Act.put, List.setIfInBounds_toArray, List.set_cons_zero, List.set_cons_succ]
    refine wpAnyH_take (i := 15) (v := ?_) rfl (by kernel_rfl) (by kernel_rfl) (by kernel_rfl) (fun _ _ _ h => h) (Or.inl ⟨by rfl, ?_⟩) (by assumption) ?_
    rotate_left
    · intro w hSw
      try dsimp only at hSw
      go_simp
      try with_reducible rfl
    try simp only [Act.put, List.setIfInBounds_toArray, List.set_cons_zero, List.set_cons_succ]
    refine wpAnyH_ready (rs := [16]) (by kernel_rfl) (by simp) ?_
    refine AllReadyH.cons rfl (fun K hK => ?_) AllReadyH.nil
    go_simp
    refine hK.out _ _ (hHeld) (fun hHeld => ?_)
    clear hK K
    try simp only [Act.put, List.setIfInBounds_toArray, List.set_cons_zero, List.set_cons_succ]
    refine wpAnyH_done (by kernel_rfl) ?_ _
    refine NoPanic.normal ?_
    have HNw3 := Lib.hid (HNX.out.under HB3.out)
    have HGw3 := Lib.hid ((HB3.out.block _ (Gn.heap_lt HX0.out)).trans HX0.out)
    have HRw3 := Lib.hid ((HB3.out.block _ (Gn.heap_lt HX1.out)).trans HX1.out)
    have HSw3 := Lib.hid (Sep.of_below (g := k) (HB0.out.trans (HB3.out.mono (by have := HVZ.out; omega))))
    by_cases hc0 : c = 0
    · subst hc0
      rw [if_pos rfl] at HR
      have HT := Lib.hid (there_any g hf Q w3 _ HNw3.out.pg n hn1 hn2)
      obtain ⟨rb, hrb⟩ : ∃ rb, rb = (rootT g n).2 := ⟨_, rfl⟩
      rw [← hrb] at HT
      have HRB := Lib.hid hrb
      clear hrb
      have y0 := cell_of_row _ _ 0 _ _ (0, 0) HGw3.out
      have y1 := cell_of_row _ _ 1 _ _ (0, 0) HGw3.out
      have y2 := cell_of_row _ _ 2 _ _ (0, 0) HGw3.out
      have y3 := cell_of_row _ _ 3 _ _ (0, 0) HGw3.out
      have y4 := cell_of_row _ _ 4 _ _ (0, 0) HGw3.out
      go_wp2_with fail
      refine HT.out.mono ?_
      rintro e w4 ⟨rfl, hb4⟩
      have HB4 := Lib.hid (HB3.out.trans (hb4.mono HB3.out.size))
      clear hb4 y0 y1 y2 y3 y4
      have HNw4 := Lib.hid (HNX.out.under HB4.out)
      have HGw4 := Lib.hid ((HB4.out.block _ (Gn.heap_lt HX0.out)).trans HX0.out)
      have HRw4 := Lib.hid ((HB4.out.block _ (Gn.heap_lt HX1.out)).trans HX1.out)
      have HSw4 := Lib.hid (Sep.of_below (g := k) (HB0.out.trans (HB4.out.mono (by have := HVZ.out; omega))))
      cases rb
      · have hw10 : wrongT g o n = 10 := by unfold wrongT; rw [← HRB.out]; rfl
        have hRe : R = .error 10 := by rw [HR.out, hw10]; rfl
        have HRE := Lib.hid hRe
        clear hRe hw10
        have HNF := Lib.hid (nx_fail (R := R) (cc := 10) (ci := 10) HKL.out HNw4.out HSw4.out HRw4.out HOLD.out (by exact HRE.out) (by decide) rfl)
        have x3 := cell_of_row _ _ 3 _ _ (0, 0) HNw4.out.box
        have xf3 := Gn.frozen_row HNw4.out.box 3
        have hkW : W.heap.size + 1 ≠ k := by have := HKL.out; omega
        have hkW2 : k ≠ W.heap.size + 1 := fun h => hkW h.symm
        have r0 := cell_of_row _ _ 0 _ _ (0, 0) HRw4.out
        have r1 := cell_of_row _ _ 1 _ _ (0, 0) HRw4.out
        have rf0 := Gn.frozen_row HRw4.out 0
        have rf1 := Gn.frozen_row HRw4.out 1
        go_wp2_with fail
        exact bodyPost_ret (results_cell_row rfl _ _ (W.heap.size + 1) 43 _ (0, 0) _ rfl HNF.out.2 Try.underlying43 rfl rfl) rfl HNF.out.1
      · have hkkp : ¬ n < 0 → n.toNat < g.prods.length := fun hn0 => by
          have h9 := HRB.out
          unfold rootT at h9
          rw [if_neg hn0] at h9
          split at h9
          · assumption
          · cases h9
        have e6 : ((nd : Int) == 65536) = false := by rw [beq_eq_false_iff_ne]; omega
        cases o with
        | none => exact absurd HO.out (by simp)
        | some y =>
          have hin : inner = true := HINNER.out
          have hwn : want = y := HWANT.out
          subst hin hwn
          have HRO := Lib.hid (root_any g hf Q w4 _ HNw4.out.pg n HRB.out.symm)
          obtain ⟨ri, hri⟩ : ∃ ri, ri = (rootT g n).1 := ⟨_, rfl⟩
          rw [← hri] at HRO
          have HRI := Lib.hid hri
          clear hri
          have z2 := cell_of_row _ _ 2 _ _ (0, 0) HNw4.out.box
          have y0 := cell_of_row _ _ 0 _ _ (0, 0) HGw4.out
          have y1 := cell_of_row _ _ 1 _ _ (0, 0) HGw4.out
          have y2 := cell_of_row _ _ 2 _ _ (0, 0) HGw4.out
          have y3 := cell_of_row _ _ 3 _ _ (0, 0) HGw4.out
          have y4 := cell_of_row _ _ 4 _ _ (0, 0) HGw4.out
          go_wp2_with fail
          refine HRO.out.mono ?_
          rintro e w5 ⟨rfl, hb5⟩
          have HB55 := Lib.hid (HB4.out.trans (hb5.mono HB4.out.size))
          clear hb5 y0 y1 y2 y3 y4 z2
          have HNw5 := Lib.hid (HNX.out.under HB55.out)
          have HGw5 := Lib.hid ((HB55.out.block _ (Gn.heap_lt HX0.out)).trans HX0.out)
          have HRw5 := Lib.hid ((HB55.out.block _ (Gn.heap_lt HX1.out)).trans HX1.out)
          have HSw5 := Lib.hid (Sep.of_below (g := k) (HB0.out.trans (HB55.out.mono (by have := HVZ.out; omega))))
          by_cases hrw : ri = want
          · have e7 : (ri != want) = false := by rw [bne_eq_false_iff_eq]; exact hrw
            have hw0 : wrongT g (some want) n = 0 := by unfold wrongT; rw [← HRB.out, ← HRI.out, hrw]; simp [suchB]
            have hR0 : R = wrapK n (kidsG (fun y => treeR g f (some y)) [] (sideT g n) ((bs (B.extract a B.size)).drop j) (nd + 1)) := by rw [HR.out, hw0]; rfl
            obtain ⟨K, hK⟩ : ∃ K, K = kidsG (fun y => treeR g f (some y)) [] (sideT g n) ((bs B).drop (a + j)) (nd + 1) := ⟨_, rfl⟩
            have HRK := Lib.hid (show R = wrapK n K by rw [hR0, hK, ← HDR.out])
            obtain ⟨hj1, _, hj2⟩ := HGB.out (by trivial) |>.2 |> fun h => (⟨h.1, trivial, h.2⟩ : 1 ≤ j ∧ True ∧ j ≤ B.size - a)
            obtain ⟨V2, hV2⟩ : ∃ V2, V2 = ((w5.setCell ⟨k, 1, none⟩ (.int .i64 ((a : Int) + (j : Int)))).setCell ⟨k, 2, none⟩ (.int .i64 ((nd : Int) + 1))).alloc (.cells #[.int .i64 n, .slice none 0 0] 43) := ⟨_, rfl⟩
            have hwz : w5.heap.size = ((w5.setCell ⟨k, 1, none⟩ (.int .i64 ((a : Int) + (j : Int)))).setCell ⟨k, 2, none⟩ (.int .i64 ((nd : Int) + 1))).heap.size := by simp [World.setCell]
            have hkw : ∀ b, k ≠ b → b < w5.heap.size → V2.heap[b]? = w5.heap[b]? := fun b hb hbt => by
              rw [hV2]
              exact (heap_alloc_old _ _ (by rw [← hwz]; exact hbt)).trans ((Gn.set_keep _ 2 _ hb).trans (Gn.set_keep _ 1 _ hb))
            have hkt : k < w5.heap.size := by exact Gn.heap_lt HNw5.out.box
            have hkl := HKL.out
            have hwt : W.heap.size + 1 < w5.heap.size := by exact Gn.heap_lt HRw5.out
            have hsz2 : V2.heap.size = w5.heap.size + 1 := by rw [hV2, Gn.size_alloc', ← hwz]
            have hbox : V2.heap[w5.heap.size]? = some (.cells #[.int .i64 n, .slice none 0 0] 43 (0, 0)) := by rw [hV2, hwz]; exact heap_alloc_new _ _
            have hkb : V2.heap[k]? = some (.cells #[.string B, .int .i64 ((a + j : Nat) : Int), .int .i64 ((nd + 1 : Nat) : Int), .int .i64 0] 107 (0, 0)) := by
              rw [hV2]
              refine (heap_alloc_old _ _ (by rw [← hwz]; exact hkt)).trans ?_
              exact Gn.heap_set (Gn.heap_set HNw5.out.box 1 (.int .i64 ((a : Int) + (j : Int)))) 2 (.int .i64 ((nd : Int) + 1))
            have hsep2 : Sep k W.heap.size W V2 := HSw5.out.trans ⟨by rw [hV2]; rfl, by rw [hV2]; rfl, by rw [hV2]; rfl, by omega, fun b hb hbk => hkw b (fun h => hbk h.symm) (by omega)⟩
            have hpg2 : PgAt Q V2 g (.agg #[.int .i64 g.start, .int .i64 g.rules, .slice An g.names.length cn, .slice At_ g.terms.length ct, .slice Ap g.prods.length cp]) := HNw5.out.pg.keep (by omega) fun r hr _ => ⟨hr, fun i => Gn.cell_same (hkw r (fun h => HNw5.out.far r hr h.symm) (by have := HOLD.out r hr; omega)) i⟩
            have HNX2 := Lib.hid (show NxAt Q V2 k g An At_ Ap cn ct cp B (a + j) (nd + 1) 0 from ⟨hkb, hpg2, HNw5.out.far⟩)
            have hgb2 := (hkw W.heap.size (by omega) (by omega)).trans HGw5.out
            have hres2 := (hkw (W.heap.size + 1) (by omega) (by omega)).trans HRw5.out
            have HMKX := Lib.hid (fun (uv : Value) (hs : IntsAt Q V2 (sideT g n) uv) => show KX Q W w5.heap.size k g An At_ Ap cn ct cp n (sideT g n) uv none 0 [] B (a + j) (nd + 1) 0 V2 from ⟨HNX2.out, hgb2, hres2, hbox, DItems.nil _ _, hs, hsep2, ⟨hkl, hwt⟩, HOLD.out⟩)
            have HST0 := Lib.hid (show Stage g f (sideT g n) B nd K 0 [] (a + j) (nd + 1) 0 from .inl ⟨rfl, by rw [List.drop_zero]; exact hK.symm, by have := HNA.out; omega, by omega, by omega⟩)
            have hg4 := cell_of_row _ _ 4 _ _ (0, 0) hgb2
            have HG2 := Lib.hid hgb2
            have HPG2 := Lib.hid hpg2
            have haj : (a : Int) + (j : Int) ≤ 500 := by omega
            have hnd5 : (nd : Int) + 1 ≤ 501 := by omega
            have HHV2 := Lib.hid hV2
            clear hwz hkw hkt hkl hwt hbox hkb hsep2 hpg2 hgb2 hres2 hK hR0 hV2 hsz2
            have x0 := cell_of_row _ _ 0 _ _ (0, 0) HNw5.out.box
            have x1 := cell_of_row _ _ 1 _ _ (0, 0) HNw5.out.box
            have x2 := cell_of_row _ _ 2 _ _ (0, 0) HNw5.out.box
            have xf1 := Gn.frozen_row HNw5.out.box 1
            have xf2 := Gn.frozen_row HNw5.out.box 2
            go_upto_region 16 with fail
            rw [← HHV2.out]
            clear x0 x1 x2 xf1 xf2
            obtain ⟨ys, hys⟩ : ∃ ys, ys = sideT g n := ⟨_, rfl⟩
            obtain ⟨m, hm⟩ : ∃ m, m = ys.length := ⟨_, rfl⟩
            by_cases hn0 : n < 0
            · have hn00 : ¬ (0 : Int) ≤ n := by omega
              have hysn : ys = [] := by rw [hys]; unfold sideT; rw [if_pos hn0]
              have HK0 := Lib.hid (HMKX.out (.slice none 0 0) (by rw [← hys, hysn]; exact IntsAt.nil _ _ _ _))
              rw [← hys] at HK0 HST0
              have hm0 : m = 0 := by rw [hm, hysn]; rfl
              have HM := Lib.hid hm
              clear hm hys hysn
              have HFI := Lib.hid (nx_done HK0.out (by rw [← HM.out, hm0]; exact HST0.out))
              rw [← HRK.out] at HFI
              have t0 := cell_of_row _ _ 0 _ _ (0, 0) HK0.out.box
              have t1 := cell_of_row _ _ 1 _ _ (0, 0) HK0.out.box
              have r0 := cell_of_row _ _ 0 _ _ (0, 0) HK0.out.res
              have r1 := cell_of_row _ _ 1 _ _ (0, 0) HK0.out.res
              have rf0 := Gn.frozen_row HK0.out.res 0
              have rf1 := Gn.frozen_row HK0.out.res 1
              have HRS := Lib.hid (res_set HK0.out.res (.int .i64 n) (.slice none 0 0))
              go_wp2_with fail
              exact bodyPost_ret (results_cell_row rfl _ _ (W.heap.size + 1) 43 _ (0, 0) _ rfl HRS.out Try.underlying43 rfl rfl) rfl HFI.out
            · obtain ⟨kk, rfl⟩ : ∃ kk : Nat, n = (kk : Int) := ⟨n.toNat, by omega⟩
              obtain ⟨A2, cap2, bP, fP, e2, hcp, hA2, hc2⟩ := prods4 HPG2.out
              injection e2 with e21 e22 e23
              subst e21 e23
              clear e22
              have hkp := hkkp (by omega)
              obtain ⟨rfl, hbl, hPb⟩ := hA2 (by omega)
              obtain ⟨q0, q1, q2⟩ := hc2 kk hkp
              have hE : sideT g (kk : Int) = g.prods[kk].right := by unfold sideT; rw [if_neg hn0, dif_pos (by simpa using hkp)]; simp
              rw [← hE, ← hys] at q2
              obtain ⟨Au, cu, eq⟩ := q2.form
              rw [eq] at q1 q2
              rw [← hm] at q1 q2 eq
              have HK0 := Lib.hid (HMKX.out _ (by rw [← hys]; exact q2))
              rw [← hys] at HK0 HST0 hsl
              rw [← hm] at hsl
              have HM := Lib.hid hm
              clear q0 q2 hc2 hE eq hA2 hm hys
              go_wp2_with fail
              go_loopw [14] (fun i wr => ∃ (q : Nat) (A : Option Addr) (cA : Nat) (acc : List Tr) (a2 nd2 : Nat) (E2 : Int), q ≤ m ∧ i = .int .i64 q ∧ KX Q W w5.heap.size k g An At_ (some ⟨bP, 0, none⟩) cn ct cp (kk : Int) ys (.slice Au m cu) A cA acc B a2 nd2 E2 wr ∧ acc.length = q ∧ Stage g f ys B nd K q acc a2 nd2 E2) (fun i _ => m - (intOf i).toNat)
              case atStart => exact ⟨0, none, 0, [], a + j, nd + 1, 0, Nat.zero_le _, rfl, HK0.out, rfl, HST0.out⟩
              case round =>
                obtain ⟨q, A, cA, acc, a2, nd2, E2, hq, rfl, hkx, hal, hst⟩ := hrel
                have HAL := Lib.hid hal
                have hal2 : acc.length ≤ m := by omega
                clear hal
                have HK := Lib.hid hkx
                have HST := Lib.hid hst
                by_cases hqm : q < m
                · have hqm2 : (q : Int) < (m : Int) := by omega
                  have hql : q < ys.length := by rw [← HM.out]; exact hqm
                  obtain ⟨A9, c9, b9, e9, hc9, h39, h49⟩ := hkx.side
                  injection e9 with e91 e92 e93
                  clear e92
                  subst e91 e93
                  obtain ⟨rfl, hb9, hQ9⟩ := h39 (by omega)
                  have x0 := h49 q hql
                  have hstep := next_step IH.out hkx hst HB5.out HFU.out hql
                  obtain ⟨y, hy⟩ : ∃ y, y = ys[q] := ⟨_, rfl⟩
                  rw [← hy] at x0 hstep
                  have HKJ := Lib.hid hstep
                  have hb9k : b9 ≠ k := hkx.rd.far b9 hQ9
                  have hb9w : b9 < W.heap.size := HOLD.out b9 hQ9
                  have hgl := Gn.heap_lt hkx.gb
                  obtain ⟨hl1, hl2⟩ := hkx.lts
                  have hlz : w5.heap.size + 1 ≤ wr.heap.size := Gn.heap_lt hkx.box
                  have HOW := Lib.hid hkx.items.own_lt
                  have HMK := Lib.hid (fun (w' : World) (s : Sep k wr.heap.size wr w') => show (fun w' : World => w'.cell? ⟨W.heap.size, 0, none⟩ = some (.int .i64 g.start) ∧ w'.cell? ⟨W.heap.size, 1, none⟩ = some (.int .i64 g.rules) ∧ w'.cell? ⟨W.heap.size, 2, none⟩ = some (.slice An g.names.length cn) ∧ w'.cell? ⟨W.heap.size, 3, none⟩ = some (.slice At_ g.terms.length ct) ∧ w'.cell? ⟨W.heap.size, 4, none⟩ = some (.slice (some ⟨bP, 0, none⟩) g.prods.length cp) ∧ w'.cell? ⟨b9, q, none⟩ = some (.int .i64 y)) w' from
                    ⟨(Gn.cell_same (s.block _ hgl (by omega)) _).trans (cell_of_row _ _ 0 _ _ (0, 0) hkx.gb), (Gn.cell_same (s.block _ hgl (by omega)) _).trans (cell_of_row _ _ 1 _ _ (0, 0) hkx.gb), (Gn.cell_same (s.block _ hgl (by omega)) _).trans (cell_of_row _ _ 2 _ _ (0, 0) hkx.gb), (Gn.cell_same (s.block _ hgl (by omega)) _).trans (cell_of_row _ _ 3 _ _ (0, 0) hkx.gb), (Gn.cell_same (s.block _ hgl (by omega)) _).trans (cell_of_row _ _ 4 _ _ (0, 0) hkx.gb), (Gn.cell_same (s.block b9 hb9 hb9k) _).trans x0⟩)
                  have d1 := cell_of_row _ _ 1 _ _ (0, 0) hkx.box
                  have d1a := cell_ahd d1
                  clear hkx hst hstep hy x0 h39 h49
                  go_upto_region 21 with fail
                  refine wp_region_noPanic ?_
                  refine wp_region_held_drew (S := (fun w' : World => w'.cell? ⟨W.heap.size, 0, none⟩ = some (.int .i64 g.start) ∧ w'.cell? ⟨W.heap.size, 1, none⟩ = some (.int .i64 g.rules) ∧ w'.cell? ⟨W.heap.size, 2, none⟩ = some (.slice An g.names.length cn) ∧ w'.cell? ⟨W.heap.size, 3, none⟩ = some (.slice At_ g.terms.length ct) ∧ w'.cell? ⟨W.heap.size, 4, none⟩ = some (.slice (some ⟨bP, 0, none⟩) g.prods.length cp) ∧ w'.cell? ⟨b9, q, none⟩ = some (.int .i64 y))) (by kernel_rfl) ?_ (fun hHeld => ?_)
                  · exact HMK.out _ (Sep.of_below (Gn.below_drew (Below.refl _ _)))
                  refine wpAnyH_take (i := 0) (v := ?_) rfl (by kernel_rfl) (by kernel_rfl) (by kernel_rfl) (fun _ _ _ h => h) (Or.inl ⟨by rfl, ?_⟩) (by assumption) ?_
                  rotate_left
                  · intro w hSw
                    try dsimp only at hSw
                    go_simp
                    try with_reducible rfl
                  try simp only [Act.put, List.setIfInBounds_toArray, List.set_cons_zero, List.set_cons_succ]
                  refine wpAnyH_take (i := 2) (v := ?_) rfl (by kernel_rfl) (by kernel_rfl) (by kernel_rfl) (fun _ _ _ h => h) (Or.inl ⟨by rfl, ?_⟩) (by assumption) ?_
                  rotate_left
                  · intro w hSw
                    try dsimp only at hSw
                    go_simp
                    try with_reducible rfl
                  try simp only [Act.put, List.setIfInBounds_toArray, List.set_cons_zero, List.set_cons_succ]
                  refine wpAnyH_take (i := 3) (v := ?_) rfl (by kernel_rfl) (by kernel_rfl) (by kernel_rfl) (fun _ _ _ h => h) (Or.inl ⟨by rfl, ?_⟩) (by assumption) ?_
                  rotate_left
                  · intro w hSw
                    try dsimp only at hSw
                    go_simp
                    try with_reducible rfl
                  try simp only [Act.put, List.setIfInBounds_toArray, List.set_cons_zero, List.set_cons_succ]
                  refine wpAnyH_take (i := 4) (v := ?_) rfl (by kernel_rfl) (by kernel_rfl) (by kernel_rfl) (fun _ _ _ h => h) (Or.inl ⟨by rfl, ?_⟩) (by assumption) ?_
                  rotate_left
                  · intro w hSw
                    try dsimp only at hSw
                    go_simp
                    try with_reducible rfl
                  try simp only [Act.put, List.setIfInBounds_toArray, List.set_cons_zero, List.set_cons_succ]
                  refine wpAnyH_take (i := 5) (v := ?_) rfl (by kernel_rfl) (by kernel_rfl) (by kernel_rfl) (fun _ _ _ h => h) (Or.inl ⟨by rfl, ?_⟩) (by assumption) ?_
                  rotate_left
                  · intro w hSw
                    try dsimp only at hSw
                    go_simp
                    try with_reducible rfl
                  try simp only [Act.put, List.setIfInBounds_toArray, List.set_cons_zero, List.set_cons_succ]
                  refine wpAnyH_take (i := 6) (v := ?_) rfl (by kernel_rfl) (by kernel_rfl) (by kernel_rfl) (fun _ _ _ h => h) (Or.inl ⟨by rfl, ?_⟩) (by assumption) ?_
                  rotate_left
                  · intro w hSw
                    try dsimp only at hSw
                    go_simp
                    try with_reducible rfl
                  try simp only [Act.put, List.setIfInBounds_toArray, List.set_cons_zero, List.set_cons_succ]
                  refine wpAnyH_take (i := 7) (v := ?_) rfl (by kernel_rfl) (by kernel_rfl) (by kernel_rfl) (fun _ _ _ h => h) (Or.inl ⟨by rfl, ?_⟩) (by assumption) ?_
                  rotate_left
                  · intro w hSw
                    try dsimp only at hSw
                    go_simp
                    try with_reducible rfl
                  try simp only [Act.put, List.setIfInBounds_toArray, List.set_cons_zero, List.set_cons_succ]
                  refine wpAnyH_ready (rs := [1, 8]) (by kernel_rfl) (by simp) ?_
                  refine AllReadyH.cons rfl (fun K hK => ?_) ?_
                  · go_simp
                    refine hK.out _ _ (hHeld) (fun hHeld => ?_)
                    clear hK K
                    try simp only [Act.put, List.setIfInBounds_toArray, List.set_cons_zero, List.set_cons_succ]
                    refine wpAnyH_ready (rs := [8]) (by kernel_rfl) (by simp) ?_
                    refine AllReadyH.cons rfl (fun K hK => ?_) AllReadyH.nil
                    go_simp
                    go_at_call 50
                    refine (HKJ.out _ (by first | exact Gn.below_drew (Below.refl _ _))).mono ?_
                    rintro e w6 ⟨t5, n5, A5, m5, c5, a5, nd5, E5, rfl, ht5, hsp5, hnx5, hst5⟩
                    have h5 := HK.out.call hsp5 hnx5
                    obtain ⟨vs, hv1, hv2, hv3⟩ := h5.items
                    have HV5 := Lib.hid hv2
                    have H5 := Lib.hid h5
                    have HT5 := Lib.hid ht5
                    have HSP5 := Lib.hid hsp5
                    have HST5 := Lib.hid hst5
                    have HAL5 := Lib.hid (fun o : Obj => HSP5.out.trans ((Sep.of_below (g := k) ((Below.refl w6.heap.size w6).alloc (Nat.le_refl _) o)).mono HSP5.out.size))
                    have e1 := cell_of_row _ _ 1 _ _ (0, 0) h5.box
                    have e1a := cell_ahd e1
                    have hz5 : wr.heap.size ≤ w6.heap.size := hsp5.size
                    clear hv1 hv2 hv3 h5 ht5 hsp5 hnx5 hst5
                    refine hK.out _ _ (HMK.out _ HSP5.out) (fun hHeld => ?_)
                    clear hK K
                    try simp only [Act.put, List.setIfInBounds_toArray, List.set_cons_zero, List.set_cons_succ]
                    refine wpAnyH_ready (rs := [9]) (by kernel_rfl) (by simp) ?_
                    refine AllReadyH.cons rfl (fun K hK => ?_) AllReadyH.nil
                    go_simp
                    refine hK.out _ _ (HMK.out _ (HAL5.out _)) (fun hHeld => ?_)
                    clear hK K
                    try simp only [Act.put, List.setIfInBounds_toArray, List.set_cons_zero, List.set_cons_succ]
                    refine wpAnyH_ready (rs := [10]) (by kernel_rfl) (by simp) ?_
                    refine AllReadyH.cons rfl (fun K hK => ?_) AllReadyH.nil
                    refine step_append_lies _ (by rfl) (.tmp 103) (.tmp 111) 41 (by rfl) (w5.heap.size + 1) 43 i0 _ 2 32 Try.underlying41 hi0 hz0 hz1 hz2 rfl (by decide) (.slice A acc.length cA) acc.length (cells2 vs) (by simp [Act.eval]) (HV5.out.alloc _) ⟨w6.heap.size, 0, none⟩ 1 1 [.int .i64 n5, .slice A5 m5 c5] (by simp [Act.eval]) rfl (Gn.row_new w6 [.int .i64 n5, .slice A5 m5 c5] 43 w6.heap.size rfl) (by simp [Value.oneCell']) (by decide) (by unfold maxLen; omega) (by omega) (by simp; omega) _ rfl ?_
                    intro gq cap4 w8 hown4 hgrow4 hat4 hlt4
                    have h4 := H5.out.snoc (lo := wr.heap.size) (t := t5) (gq := gq) (c' := cap4) hlz (fun k hk => (HOW.out k hk).1) HT5.out (fun vs4 hv4 => by rw [Gn.owns_uniq hv4 HV5.out]; exact hown4) hgrow4 hat4
                    have u9 : w8.cell? ⟨w5.heap.size, 1, none⟩ = some (.slice A acc.length cA) := cell_of_row _ _ 1 _ _ (0, 0) h4.1
                    have uf9 := Gn.frozen_row h4.1 1
                    have H4 := Lib.hid h4.2
                    have HG9 := Lib.hid hgrow4
                    have hnb : ∀ b, b < wr.heap.size → b ≠ k → (Value.slice A acc.length cA).ownBlock ≠ some b → w8.heap[b]? = wr.heap[b]? := fun b hb hbk hn => (HG9.out.block b (by simp; omega) (fun e => hn e.symm)).trans ((heap_alloc_old w6 _ (by omega)).trans (HSP5.out.block b hb hbk))
                    have hS0 := HMK.out wr (Sep.refl _ _ _)
                    have hgx := hnb W.heap.size (by omega) (by have := HKL.out; omega) (fun e => by have := (HOW.out _ e).2; omega)
                    have hbx := hnb b9 (by omega) hb9k (fun e => by have := (HOW.out _ e).2; omega)
                    have HS4 := Lib.hid (show (fun w' : World => w'.cell? ⟨W.heap.size, 0, none⟩ = some (.int .i64 g.start) ∧ w'.cell? ⟨W.heap.size, 1, none⟩ = some (.int .i64 g.rules) ∧ w'.cell? ⟨W.heap.size, 2, none⟩ = some (.slice An g.names.length cn) ∧ w'.cell? ⟨W.heap.size, 3, none⟩ = some (.slice At_ g.terms.length ct) ∧ w'.cell? ⟨W.heap.size, 4, none⟩ = some (.slice (some ⟨bP, 0, none⟩) g.prods.length cp) ∧ w'.cell? ⟨b9, q, none⟩ = some (.int .i64 y)) w8 from ⟨(Gn.cell_same hgx _).trans hS0.1, (Gn.cell_same hgx _).trans hS0.2.1, (Gn.cell_same hgx _).trans hS0.2.2.1, (Gn.cell_same hgx _).trans hS0.2.2.2.1, (Gn.cell_same hgx _).trans hS0.2.2.2.2.1, (Gn.cell_same hbx _).trans hS0.2.2.2.2.2⟩)
                    clear h4 hown4 hgrow4 hat4 hlt4 hnb hS0 hgx hbx
                    refine hK.out _ _ (HS4.out) (fun hHeld => ?_)
                    clear hK K
                    try simp only [Act.put, List.setIfInBounds_toArray, List.set_cons_zero, List.set_cons_succ]
                    refine wpAnyH_take (i := 11) (v := ?_) rfl (by kernel_rfl) (by kernel_rfl) (by kernel_rfl) (fun _ _ _ h => h) (Or.inl ⟨by rfl, ?_⟩) (by assumption) ?_
                    rotate_left
                    · intro w hSw
                      try dsimp only at hSw
                      go_simp
                      try with_reducible rfl
                    try simp only [Act.put, List.setIfInBounds_toArray, List.set_cons_zero, List.set_cons_succ]
                    refine wpAnyH_ready (rs := [12]) (by kernel_rfl) (by simp) ?_
                    refine AllReadyH.cons rfl (fun K hK => ?_) AllReadyH.nil
                    go_simp
                    refine hK.out _ _ (⟨(Gn.cell_same (Gn.set_keep _ _ _ (by omega)) _).trans hHeld.1, (Gn.cell_same (Gn.set_keep _ _ _ (by omega)) _).trans hHeld.2.1, (Gn.cell_same (Gn.set_keep _ _ _ (by omega)) _).trans hHeld.2.2.1, (Gn.cell_same (Gn.set_keep _ _ _ (by omega)) _).trans hHeld.2.2.2.1, (Gn.cell_same (Gn.set_keep _ _ _ (by omega)) _).trans hHeld.2.2.2.2.1, (Gn.cell_same (Gn.set_keep _ _ _ (by omega)) _).trans hHeld.2.2.2.2.2⟩) (fun hHeld => ?_)
                    clear hK K
                    try simp only [Act.put, List.setIfInBounds_toArray, List.set_cons_zero, List.set_cons_succ]
                    refine wpAnyH_done (by kernel_rfl) ?_ _
                    refine NoPanic.normal ?_
                    go_wp2_with fail
                    go_roundw
                    case rel => exact ⟨q + 1, some ⟨gq, 0, none⟩, cap4, acc ++ [t5], a5, nd5, E5, by omega, by go_num, H4.out, by simp [HAL.out], HST5.out⟩
                    case measure => simp [intOf]; omega
                  refine AllReadyH.cons rfl (fun K hK => ?_) AllReadyH.nil
                  · go_simp
                    go_at_call 50
                    refine (HKJ.out _ (by first | exact Gn.below_drew (Below.refl _ _))).mono ?_
                    rintro e w6 ⟨t5, n5, A5, m5, c5, a5, nd5, E5, rfl, ht5, hsp5, hnx5, hst5⟩
                    have h5 := HK.out.call hsp5 hnx5
                    obtain ⟨vs, hv1, hv2, hv3⟩ := h5.items
                    have HV5 := Lib.hid hv2
                    have H5 := Lib.hid h5
                    have HT5 := Lib.hid ht5
                    have HSP5 := Lib.hid hsp5
                    have HST5 := Lib.hid hst5
                    have HAL5 := Lib.hid (fun o : Obj => HSP5.out.trans ((Sep.of_below (g := k) ((Below.refl w6.heap.size w6).alloc (Nat.le_refl _) o)).mono HSP5.out.size))
                    have e1 := cell_of_row _ _ 1 _ _ (0, 0) h5.box
                    have e1a := cell_ahd e1
                    have hz5 : wr.heap.size ≤ w6.heap.size := hsp5.size
                    clear hv1 hv2 hv3 h5 ht5 hsp5 hnx5 hst5
                    refine hK.out _ _ (HMK.out _ HSP5.out) (fun hHeld => ?_)
                    clear hK K
                    try simp only [Act.put, List.setIfInBounds_toArray, List.set_cons_zero, List.set_cons_succ]
                    refine wpAnyH_ready (rs := [1, 9]) (by kernel_rfl) (by simp) ?_
                    refine AllReadyH.cons rfl (fun K hK => ?_) ?_
                    · go_simp
                      refine hK.out _ _ (hHeld) (fun hHeld => ?_)
                      clear hK K
                      try simp only [Act.put, List.setIfInBounds_toArray, List.set_cons_zero, List.set_cons_succ]
                      refine wpAnyH_ready (rs := [9]) (by kernel_rfl) (by simp) ?_
                      refine AllReadyH.cons rfl (fun K hK => ?_) AllReadyH.nil
                      go_simp
                      refine hK.out _ _ (HMK.out _ (HAL5.out _)) (fun hHeld => ?_)
                      clear hK K
                      try simp only [Act.put, List.setIfInBounds_toArray, List.set_cons_zero, List.set_cons_succ]
                      refine wpAnyH_ready (rs := [10]) (by kernel_rfl) (by simp) ?_
                      refine AllReadyH.cons rfl (fun K hK => ?_) AllReadyH.nil
                      refine step_append_lies _ (by rfl) (.tmp 103) (.tmp 111) 41 (by rfl) (w5.heap.size + 1) 43 i0 _ 2 32 Try.underlying41 hi0 hz0 hz1 hz2 rfl (by decide) (.slice A acc.length cA) acc.length (cells2 vs) (by simp [Act.eval]) (HV5.out.alloc _) ⟨w6.heap.size, 0, none⟩ 1 1 [.int .i64 n5, .slice A5 m5 c5] (by simp [Act.eval]) rfl (Gn.row_new w6 [.int .i64 n5, .slice A5 m5 c5] 43 w6.heap.size rfl) (by simp [Value.oneCell']) (by decide) (by unfold maxLen; omega) (by omega) (by simp; omega) _ rfl ?_
                      intro gq cap4 w8 hown4 hgrow4 hat4 hlt4
                      have h4 := H5.out.snoc (lo := wr.heap.size) (t := t5) (gq := gq) (c' := cap4) hlz (fun k hk => (HOW.out k hk).1) HT5.out (fun vs4 hv4 => by rw [Gn.owns_uniq hv4 HV5.out]; exact hown4) hgrow4 hat4
                      have u9 : w8.cell? ⟨w5.heap.size, 1, none⟩ = some (.slice A acc.length cA) := cell_of_row _ _ 1 _ _ (0, 0) h4.1
                      have uf9 := Gn.frozen_row h4.1 1
                      have H4 := Lib.hid h4.2
                      have HG9 := Lib.hid hgrow4
                      have hnb : ∀ b, b < wr.heap.size → b ≠ k → (Value.slice A acc.length cA).ownBlock ≠ some b → w8.heap[b]? = wr.heap[b]? := fun b hb hbk hn => (HG9.out.block b (by simp; omega) (fun e => hn e.symm)).trans ((heap_alloc_old w6 _ (by omega)).trans (HSP5.out.block b hb hbk))
                      have hS0 := HMK.out wr (Sep.refl _ _ _)
                      have hgx := hnb W.heap.size (by omega) (by have := HKL.out; omega) (fun e => by have := (HOW.out _ e).2; omega)
                      have hbx := hnb b9 (by omega) hb9k (fun e => by have := (HOW.out _ e).2; omega)
                      have HS4 := Lib.hid (show (fun w' : World => w'.cell? ⟨W.heap.size, 0, none⟩ = some (.int .i64 g.start) ∧ w'.cell? ⟨W.heap.size, 1, none⟩ = some (.int .i64 g.rules) ∧ w'.cell? ⟨W.heap.size, 2, none⟩ = some (.slice An g.names.length cn) ∧ w'.cell? ⟨W.heap.size, 3, none⟩ = some (.slice At_ g.terms.length ct) ∧ w'.cell? ⟨W.heap.size, 4, none⟩ = some (.slice (some ⟨bP, 0, none⟩) g.prods.length cp) ∧ w'.cell? ⟨b9, q, none⟩ = some (.int .i64 y)) w8 from ⟨(Gn.cell_same hgx _).trans hS0.1, (Gn.cell_same hgx _).trans hS0.2.1, (Gn.cell_same hgx _).trans hS0.2.2.1, (Gn.cell_same hgx _).trans hS0.2.2.2.1, (Gn.cell_same hgx _).trans hS0.2.2.2.2.1, (Gn.cell_same hbx _).trans hS0.2.2.2.2.2⟩)
                      clear h4 hown4 hgrow4 hat4 hlt4 hnb hS0 hgx hbx
                      refine hK.out _ _ (HS4.out) (fun hHeld => ?_)
                      clear hK K
                      try simp only [Act.put, List.setIfInBounds_toArray, List.set_cons_zero, List.set_cons_succ]
                      refine wpAnyH_take (i := 11) (v := ?_) rfl (by kernel_rfl) (by kernel_rfl) (by kernel_rfl) (fun _ _ _ h => h) (Or.inl ⟨by rfl, ?_⟩) (by assumption) ?_
                      rotate_left
                      · intro w hSw
                        try dsimp only at hSw
                        go_simp
                        try with_reducible rfl
                      try simp only [Act.put, List.setIfInBounds_toArray, List.set_cons_zero, List.set_cons_succ]
                      refine wpAnyH_ready (rs := [12]) (by kernel_rfl) (by simp) ?_
                      refine AllReadyH.cons rfl (fun K hK => ?_) AllReadyH.nil
                      go_simp
                      refine hK.out _ _ (⟨(Gn.cell_same (Gn.set_keep _ _ _ (by omega)) _).trans hHeld.1, (Gn.cell_same (Gn.set_keep _ _ _ (by omega)) _).trans hHeld.2.1, (Gn.cell_same (Gn.set_keep _ _ _ (by omega)) _).trans hHeld.2.2.1, (Gn.cell_same (Gn.set_keep _ _ _ (by omega)) _).trans hHeld.2.2.2.1, (Gn.cell_same (Gn.set_keep _ _ _ (by omega)) _).trans hHeld.2.2.2.2.1, (Gn.cell_same (Gn.set_keep _ _ _ (by omega)) _).trans hHeld.2.2.2.2.2⟩) (fun hHeld => ?_)
                      clear hK K
                      try simp only [Act.put, List.setIfInBounds_toArray, List.set_cons_zero, List.set_cons_succ]
                      refine wpAnyH_done (by kernel_rfl) ?_ _
                      refine NoPanic.normal ?_
                      go_wp2_with fail
                      go_roundw
                      case rel => exact ⟨q + 1, some ⟨gq, 0, none⟩, cap4, acc ++ [t5], a5, nd5, E5, by omega, by go_num, H4.out, by simp [HAL.out], HST5.out⟩
                      case measure => simp [intOf]; omega
                    refine AllReadyH.cons rfl (fun K hK => ?_) AllReadyH.nil
                    · go_simp
                      refine hK.out _ _ (HMK.out _ (HAL5.out _)) (fun hHeld => ?_)
                      clear hK K
                      try simp only [Act.put, List.setIfInBounds_toArray, List.set_cons_zero, List.set_cons_succ]
                      refine wpAnyH_ready (rs := [1]) (by kernel_rfl) (by simp) ?_
                      refine AllReadyH.cons rfl (fun K hK => ?_) AllReadyH.nil
                      go_simp
                      refine hK.out _ _ (hHeld) (fun hHeld => ?_)
                      clear hK K
                      try simp only [Act.put, List.setIfInBounds_toArray, List.set_cons_zero, List.set_cons_succ]
                      refine wpAnyH_ready (rs := [10]) (by kernel_rfl) (by simp) ?_
                      refine AllReadyH.cons rfl (fun K hK => ?_) AllReadyH.nil
                      refine step_append_lies _ (by rfl) (.tmp 103) (.tmp 111) 41 (by rfl) (w5.heap.size + 1) 43 i0 _ 2 32 Try.underlying41 hi0 hz0 hz1 hz2 rfl (by decide) (.slice A acc.length cA) acc.length (cells2 vs) (by simp [Act.eval]) (HV5.out.alloc _) ⟨w6.heap.size, 0, none⟩ 1 1 [.int .i64 n5, .slice A5 m5 c5] (by simp [Act.eval]) rfl (Gn.row_new w6 [.int .i64 n5, .slice A5 m5 c5] 43 w6.heap.size rfl) (by simp [Value.oneCell']) (by decide) (by unfold maxLen; omega) (by omega) (by simp; omega) _ rfl ?_
                      intro gq cap4 w8 hown4 hgrow4 hat4 hlt4
                      have h4 := H5.out.snoc (lo := wr.heap.size) (t := t5) (gq := gq) (c' := cap4) hlz (fun k hk => (HOW.out k hk).1) HT5.out (fun vs4 hv4 => by rw [Gn.owns_uniq hv4 HV5.out]; exact hown4) hgrow4 hat4
                      have u9 : w8.cell? ⟨w5.heap.size, 1, none⟩ = some (.slice A acc.length cA) := cell_of_row _ _ 1 _ _ (0, 0) h4.1
                      have uf9 := Gn.frozen_row h4.1 1
                      have H4 := Lib.hid h4.2
                      have HG9 := Lib.hid hgrow4
                      have hnb : ∀ b, b < wr.heap.size → b ≠ k → (Value.slice A acc.length cA).ownBlock ≠ some b → w8.heap[b]? = wr.heap[b]? := fun b hb hbk hn => (HG9.out.block b (by simp; omega) (fun e => hn e.symm)).trans ((heap_alloc_old w6 _ (by omega)).trans (HSP5.out.block b hb hbk))
                      have hS0 := HMK.out wr (Sep.refl _ _ _)
                      have hgx := hnb W.heap.size (by omega) (by have := HKL.out; omega) (fun e => by have := (HOW.out _ e).2; omega)
                      have hbx := hnb b9 (by omega) hb9k (fun e => by have := (HOW.out _ e).2; omega)
                      have HS4 := Lib.hid (show (fun w' : World => w'.cell? ⟨W.heap.size, 0, none⟩ = some (.int .i64 g.start) ∧ w'.cell? ⟨W.heap.size, 1, none⟩ = some (.int .i64 g.rules) ∧ w'.cell? ⟨W.heap.size, 2, none⟩ = some (.slice An g.names.length cn) ∧ w'.cell? ⟨W.heap.size, 3, none⟩ = some (.slice At_ g.terms.length ct) ∧ w'.cell? ⟨W.heap.size, 4, none⟩ = some (.slice (some ⟨bP, 0, none⟩) g.prods.length cp) ∧ w'.cell? ⟨b9, q, none⟩ = some (.int .i64 y)) w8 from ⟨(Gn.cell_same hgx _).trans hS0.1, (Gn.cell_same hgx _).trans hS0.2.1, (Gn.cell_same hgx _).trans hS0.2.2.1, (Gn.cell_same hgx _).trans hS0.2.2.2.1, (Gn.cell_same hgx _).trans hS0.2.2.2.2.1, (Gn.cell_same hbx _).trans hS0.2.2.2.2.2⟩)
                      clear h4 hown4 hgrow4 hat4 hlt4 hnb hS0 hgx hbx
                      refine hK.out _ _ (HS4.out) (fun hHeld => ?_)
                      clear hK K
                      try simp only [Act.put, List.setIfInBounds_toArray, List.set_cons_zero, List.set_cons_succ]
                      refine wpAnyH_take (i := 11) (v := ?_) rfl (by kernel_rfl) (by kernel_rfl) (by kernel_rfl) (fun _ _ _ h => h) (Or.inl ⟨by rfl, ?_⟩) (by assumption) ?_
                      rotate_left
                      · intro w hSw
                        try dsimp only at hSw
                        go_simp
                        try with_reducible rfl
                      try simp only [Act.put, List.setIfInBounds_toArray, List.set_cons_zero, List.set_cons_succ]
                      refine wpAnyH_ready (rs := [12]) (by kernel_rfl) (by simp) ?_
                      refine AllReadyH.cons rfl (fun K hK => ?_) AllReadyH.nil
                      go_simp
                      refine hK.out _ _ (⟨(Gn.cell_same (Gn.set_keep _ _ _ (by omega)) _).trans hHeld.1, (Gn.cell_same (Gn.set_keep _ _ _ (by omega)) _).trans hHeld.2.1, (Gn.cell_same (Gn.set_keep _ _ _ (by omega)) _).trans hHeld.2.2.1, (Gn.cell_same (Gn.set_keep _ _ _ (by omega)) _).trans hHeld.2.2.2.1, (Gn.cell_same (Gn.set_keep _ _ _ (by omega)) _).trans hHeld.2.2.2.2.1, (Gn.cell_same (Gn.set_keep _ _ _ (by omega)) _).trans hHeld.2.2.2.2.2⟩) (fun hHeld => ?_)
                      clear hK K
                      try simp only [Act.put, List.setIfInBounds_toArray, List.set_cons_zero, List.set_cons_succ]
                      refine wpAnyH_done (by kernel_rfl) ?_ _
                      refine NoPanic.normal ?_
                      go_wp2_with fail
                      go_roundw
                      case rel => exact ⟨q + 1, some ⟨gq, 0, none⟩, cap4, acc ++ [t5], a5, nd5, E5, by omega, by go_num, H4.out, by simp [HAL.out], HST5.out⟩
                      case measure => simp [intOf]; omega
                · have hje : q = m := by omega
                  subst hje
                  have hjm2 : ¬ ((q : Nat) : Int) < ((q : Nat) : Int) := by omega
                  have t0 := cell_of_row _ _ 0 _ _ (0, 0) hkx.box
                  have t1 := cell_of_row _ _ 1 _ _ (0, 0) hkx.box
                  have r0 := cell_of_row _ _ 0 _ _ (0, 0) hkx.res
                  have r1 := cell_of_row _ _ 1 _ _ (0, 0) hkx.res
                  have rf0 := Gn.frozen_row hkx.res 0
                  have rf1 := Gn.frozen_row hkx.res 1
                  have HRS := Lib.hid (res_set hkx.res (.int .i64 (kk : Int)) (.slice A acc.length cA))
                  have HFI := Lib.hid (nx_done hkx (by rw [← HM.out]; exact hst))
                  rw [← HRK.out] at HFI
                  clear hkx hst
                  go_wp2_with fail
                  exact bodyPost_ret (results_cell_row rfl _ _ (W.heap.size + 1) 43 _ (0, 0) _ rfl HRS.out Try.underlying43 rfl rfl) rfl HFI.out
          · have e7 : (ri != want) = true := by rw [bne_iff_ne]; exact hrw
            have hw7 : wrongT g (some want) n = 7 := by unfold wrongT; rw [← HRB.out, ← HRI.out]; simp [suchB, hrw]
            have hRe : R = .error 7 := by rw [HR.out, hw7]; rfl
            have HRE := Lib.hid hRe
            clear hRe hw7 hrw
            have HNF := Lib.hid (nx_fail (R := R) (cc := 7) (ci := 7) HKL.out HNw5.out HSw5.out HRw5.out HOLD.out (by exact HRE.out) (by decide) rfl)
            have x3 := cell_of_row _ _ 3 _ _ (0, 0) HNw5.out.box
            have xf3 := Gn.frozen_row HNw5.out.box 3
            have hkW : W.heap.size + 1 ≠ k := by have := HKL.out; omega
            have hkW2 : k ≠ W.heap.size + 1 := fun h => hkW h.symm
            have r0 := cell_of_row _ _ 0 _ _ (0, 0) HRw5.out
            have r1 := cell_of_row _ _ 1 _ _ (0, 0) HRw5.out
            have rf0 := Gn.frozen_row HRw5.out 0
            have rf1 := Gn.frozen_row HRw5.out 1
            go_wp2_with fail
            exact bodyPost_ret (results_cell_row rfl _ _ (W.heap.size + 1) 43 _ (0, 0) _ rfl HNF.out.2 Try.underlying43 rfl rfl) rfl HNF.out.1
    · have hRe : R = .error c := by rw [HR.out, if_neg hc0, if_neg hc0]
      have HRE := Lib.hid hRe
      clear hRe
      have e1 : ((c : Int) == 0) = false := by rw [beq_eq_false_iff_ne]; omega
      have e2 : ((c : Int) != 0) = true := by rw [bne_iff_ne]; omega
      have HNF := Lib.hid (nx_fail (R := R) (cc := c) (ci := (c : Int)) HKL.out HNw3.out HSw3.out HRw3.out HOLD.out (by exact HRE.out) hc0 rfl)
      have x3 := cell_of_row _ _ 3 _ _ (0, 0) HNw3.out.box
      have xf3 := Gn.frozen_row HNw3.out.box 3
      have hkW : W.heap.size + 1 ≠ k := by have := HKL.out; omega
      have hkW2 : k ≠ W.heap.size + 1 := fun h => hkW h.symm
      have r0 := cell_of_row _ _ 0 _ _ (0, 0) HRw3.out
      have r1 := cell_of_row _ _ 1 _ _ (0, 0) HRw3.out
      have rf0 := Gn.frozen_row HRw3.out 0
      have rf1 := Gn.frozen_row HRw3.out 1
      go_wp2_with fail
      exact bodyPost_ret (results_cell_row rfl _ _ (W.heap.size + 1) 43 _ (0, 0) _ rfl HNF.out.2 Try.underlying43 rfl rfl) rfl HNF.out.1
end Go.Proofs.Ytjlppffkacimoaa.Tr
