/-
  Layer 14: the document's Get on a made grammar.
-/
import Derived.Test.YtjlppffkacimoaaTrNd
import Derived.Test.YtjlppffkacimoaaTrO
import Derived.Test.YtjlppffkacimoaaTrH
namespace Go.Proofs.Ytjlppffkacimoaa.Tr
open Go.RowKit
open Gn (Asks Sep)
open Oct (gb bs three)
open Fx (IntsAt StrsAt Prd PG PrdsAt PgAt Made)
set_option maxRecDepth 100000
set_option linter.unusedSimpArgs false
set_option linter.unusedVariables false
set_option maxHeartbeats 8000000 in
theorem rget_tree (g : PG) (hM : Made g) (hf : Fit g) (hsd : ∀ n, (sideT g n).length ≤ 1099511627776) (Q : Nat → Prop) (W : World) (v : Value) (B : ByteArray) (hu : B.size ≤ 500) (hg : PgAt Q W g v) :
    Calls Try.prog 28 #[v, .string B] W fun e w' => Got W.heap.size (getT g (bs B)) e w' ∧ Below W.heap.size W w' := by
  have hg1 : PgAt (fun r => r < W.heap.size) W g v := hg.keep (Nat.le_refl _) fun r _ hr => ⟨hr, fun _ => rfl⟩
  obtain ⟨An, At_, Ap, cn, ct, cp, rfl, hN, hT, hP⟩ := hg.open_
  obtain ⟨V, hV⟩ : ∃ V, V = (W.alloc (.cells #[.int .i64 g.start, .int .i64 g.rules, .slice An g.names.length cn, .slice At_ g.terms.length ct, .slice Ap g.prods.length cp] 34)).alloc (.cells #[.int .i64 0, .slice none 0 0] 43) := ⟨_, rfl⟩
  have hb0 : Below W.heap.size W V := by rw [hV]; exact ((Below.refl _ W).alloc (Nat.le_refl _) _).alloc (by simp) _
  have hx0 : V.heap[W.heap.size]? = some (.cells #[.int .i64 g.start, .int .i64 g.rules, .slice An g.names.length cn, .slice At_ g.terms.length ct, .slice Ap g.prods.length cp] 34 (0, 0)) := by rw [hV]; exact (heap_alloc_old _ _ (by simp)).trans (heap_alloc_new W _)
  have hx1 : V.heap[W.heap.size + 1]? = some (.cells #[.int .i64 0, .slice none 0 0] 43 (0, 0)) := by
    rw [hV]; have := heap_alloc_new (W.alloc (.cells #[.int .i64 g.start, .int .i64 g.rules, .slice An g.names.length cn, .slice At_ g.terms.length ct, .slice Ap g.prods.length cp] 34)) (.cells #[.int .i64 0, .slice none 0 0] 43); simpa using this
  have hVz : V.heap.size = W.heap.size + 2 := by rw [hV]; simp
  have HKS := Lib.hid (rsound_any g hM _ V _ (hg.under hb0))
  have HG1 := Lib.hid hg1
  have HX0 := Lib.hid hx0
  have HX1 := Lib.hid hx1
  have HB := Lib.hid hb0
  have HV := Lib.hid hV
  have HVZ := Lib.hid hVz
  have b0 := cell_of_row _ _ 0 _ _ (0, 0) hx0
  have b1 := cell_of_row _ _ 1 _ _ (0, 0) hx0
  have b2 := cell_of_row _ _ 2 _ _ (0, 0) hx0
  have b3 := cell_of_row _ _ 3 _ _ (0, 0) hx0
  have b4 := cell_of_row _ _ 4 _ _ (0, 0) hx0
  obtain ⟨RG_, hRG⟩ : ∃ RG_, RG_ = getT g (bs B) := ⟨_, rfl⟩
  rw [← hRG]
  unfold getT at hRG
  obtain ⟨R, hR⟩ : ∃ R, R = treeR g 65537 none (bs B) 0 := ⟨_, rfl⟩
  rw [← hR] at hRG
  have HRG := Lib.hid hRG
  have HR := Lib.hid hR
  clear hg hg1 hN hT hP hb0 hx0 hx1 hV hVz hRG hR
  go_enter Try.func28, Try.ntmps28
  go_upto_region 1 with fail
  rw [← HV.out]
  go_wp2_with fail
  refine HKS.out.mono ?_
  rintro e w1 ⟨rfl, bw1⟩
  have HBW1 := Lib.hid bw1
  have hw1z : W.heap.size + 2 ≤ w1.heap.size := by have := bw1.size; have := HVZ.out; omega
  have HGX1 := Lib.hid ((bw1.block _ (Gn.heap_lt HX0.out)).trans HX0.out)
  have HRX1 := Lib.hid ((bw1.block _ (Gn.heap_lt HX1.out)).trans HX1.out)
  have HB1 := Lib.hid (HB.out.trans (bw1.mono HB.out.size))
  have hbr := (Below.refl w1.heap.size w1).alloc (Nat.le_refl _) (.cells #[.string B, .int .i64 ((0 : Nat) : Int), .int .i64 ((0 : Nat) : Int), .int .i64 0] 107)
  have hrn := heap_alloc_new w1 (.cells #[.string B, .int .i64 ((0 : Nat) : Int), .int .i64 ((0 : Nat) : Int), .int .i64 0] 107)
  have HKN := Lib.hid (next_any g hf hsd 65537 (fun r => r < W.heap.size) (w1.alloc (.cells #[.string B, .int .i64 ((0 : Nat) : Int), .int .i64 ((0 : Nat) : Int), .int .i64 0] 107)) w1.heap.size An At_ Ap cn ct cp B 0 0 (Nat.le_refl _) (Nat.zero_le _) hu (by omega) ⟨hrn, (HG1.out.under (HB1.out.trans (hbr.mono HB1.out.size))), fun r hr => by omega⟩ (fun r hr => by simp; omega) none)
  rw [List.drop_zero, ← HR.out, show ((0 : Nat) : Int) = 0 from rfl, show wantO none = 0 from rfl, show (none : Option Int).isSome = false from rfl] at HKN
  have HBR := Lib.hid hbr
  rw [show ((0 : Nat) : Int) = 0 from rfl] at HBR
  have g0 := (HBR.out.cell (p := ⟨W.heap.size, 0, none⟩) (by show W.heap.size < _; omega)).trans (cell_of_row _ _ 0 _ _ (0, 0) HGX1.out)
  have g1 := (HBR.out.cell (p := ⟨W.heap.size, 1, none⟩) (by show W.heap.size < _; omega)).trans (cell_of_row _ _ 1 _ _ (0, 0) HGX1.out)
  have g2 := (HBR.out.cell (p := ⟨W.heap.size, 2, none⟩) (by show W.heap.size < _; omega)).trans (cell_of_row _ _ 2 _ _ (0, 0) HGX1.out)
  have g3 := (HBR.out.cell (p := ⟨W.heap.size, 3, none⟩) (by show W.heap.size < _; omega)).trans (cell_of_row _ _ 3 _ _ (0, 0) HGX1.out)
  have g4 := (HBR.out.cell (p := ⟨W.heap.size, 4, none⟩) (by show W.heap.size < _; omega)).trans (cell_of_row _ _ 4 _ _ (0, 0) HGX1.out)
  clear b0 b1 b2 b3 b4 bw1 hbr hrn
  go_wp2_with fail
  refine HKN.out.mono ?_
  rintro e w2 ⟨t', n, A, m, c, rfl, ht, hsp, hend⟩
  have hs1 : Below w1.heap.size w1 w2 := HBR.out.trans (hsp.below (Nat.le_refl _) (by simp))
  have hb3 := (Below.refl w2.heap.size w2).alloc (Nat.le_refl _) (.cells #[.int .i64 n, .slice A m c] 43)
  have ht7 := heap_alloc_new w2 (.cells #[.int .i64 n, .slice A m c] 43)
  obtain ⟨w3, hw3⟩ : ∃ w3, w3 = w2.alloc (.cells #[.int .i64 n, .slice A m c] 43) := ⟨_, rfl⟩
  rw [← hw3] at hb3 ht7
  have hs13 := hs1.trans (hb3.mono hs1.size)
  have HBX := Lib.hid (HB1.out.trans (hs13.mono HB1.out.size))
  have HRX := Lib.hid ((hs13.block _ (by omega)).trans HRX1.out)
  have HW3 := Lib.hid hw3
  have HT := Lib.hid (ht.under hb3)
  have hw2z : w1.heap.size < w2.heap.size := by have := hsp.size; simp at this; omega
  have HT7 := Lib.hid ht7
  clear g0 g1 g2 g3 g4 hs1 hs13 hw3 ht hsp HKN
  cases R with
  | error ec =>
    obtain ⟨a', nd', hec, hnx⟩ := hend
    have hRe : RG_ = .error ec := HRG.out
    have hE := (hnx.under hb3).box
    have k3 := cell_of_row _ _ 3 _ _ (0, 0) hE
    have HRE := Lib.hid hRe
    have e1 : ((ec : Int) == 0) = false := by rw [beq_eq_false_iff_ne]; omega
    have hec2 : (ec : Int) ≠ 0 := by omega
    have HK3 := Lib.hid k3
    clear hnx hRe hE hb3 ht7 HRG
    have HRG := Lib.hid HRE.out
    clear HRE
    go_upto_region 5 with fail
    rw [← HW3.out]
    have e2 : (((ec : Int) : Int) != 0) = true := by rw [bne_iff_ne]; exact hec2
    have r0 := cell_of_row _ _ 0 _ _ (0, 0) HRX.out
    have r1 := cell_of_row _ _ 1 _ _ (0, 0) HRX.out
    have rf0 := Gn.frozen_row HRX.out 0
    have rf1 := Gn.frozen_row HRX.out 1
    have HRS := Lib.hid (res_set HRX.out (.int .i64 0) (.slice none 0 0))
    have HFI := Lib.hid ((HBX.out.setCell (p := ⟨W.heap.size + 1, 0, none⟩) (by simp) (.int .i64 0)).setCell (p := ⟨W.heap.size + 1, 1, none⟩) (by simp) (.slice none 0 0))
    go_upto_region 8 with fail
    refine wp_region_noPanic ?_
    refine wp_region_held_drew (S := (fun w' : World => w'.cell? ⟨w1.heap.size, 3, none⟩ = some (.int .i64 (ec : Int)))) (by kernel_rfl) ?_ (fun hHeld => ?_)
    · exact HK3.out
    refine wpAnyH_take (i := 0) (v := ?_) rfl (by kernel_rfl) (by kernel_rfl) (by kernel_rfl) (fun _ _ _ h => h) (Or.inl ⟨by rfl, ?_⟩) (by assumption) ?_
    rotate_left
    · intro w hSw
      try dsimp only at hSw
      go_simp
      try with_reducible rfl
    try simp only [Act.put, List.setIfInBounds_toArray, List.set_cons_zero, List.set_cons_succ]
    refine wpAnyH_take (i := 1) (v := ?_) rfl (by kernel_rfl) (by kernel_rfl) (by kernel_rfl) (fun _ _ _ h => h) (Or.inl ⟨by rfl, ?_⟩) (by assumption) ?_
    rotate_left
    · intro w hSw
      try dsimp only at hSw
      go_simp
      try with_reducible rfl
    try simp only [Act.put, List.setIfInBounds_toArray, List.set_cons_zero, List.set_cons_succ]
    refine wpAnyH_take (i := 2) (v := ?_) rfl (by kernel_rfl) (by kernel_rfl) (by kernel_rfl) (fun _ _ _ h => h) (Or.inl ⟨by rfl, ?_⟩) (by assumption) ?_
    rotate_left
    · intro w hSw
      try dsimp only at hSw
      go_simp
      try with_reducible rfl
    try simp only [Act.put, List.setIfInBounds_toArray, List.set_cons_zero, List.set_cons_succ]
    refine wpAnyH_take (i := 3) (v := ?_) rfl (by kernel_rfl) (by kernel_rfl) (by kernel_rfl) (fun _ _ _ h => h) (Or.inl ⟨by rfl, ?_⟩) (by assumption) ?_
    rotate_left
    · intro w hSw
      try dsimp only at hSw
      go_simp
      try with_reducible rfl
    try simp only [Act.put, List.setIfInBounds_toArray, List.set_cons_zero, List.set_cons_succ]
    refine wpAnyH_take (i := 4) (v := ?_) rfl (by kernel_rfl) (by kernel_rfl) (by kernel_rfl) (fun _ _ _ h => h) (Or.inl ⟨by rfl, ?_⟩) (by assumption) ?_
    rotate_left
    · intro w hSw
      try dsimp only at hSw
      go_simp
      try with_reducible rfl
    try simp only [Act.put, List.setIfInBounds_toArray, List.set_cons_zero, List.set_cons_succ]
    refine wpAnyH_ready (rs := [5]) (by kernel_rfl) (by simp) ?_
    refine AllReadyH.cons rfl (fun K hK => ?_) AllReadyH.nil
    go_simp
    refine hK.out _ _ ((Gn.cell_same ((Gn.set_keep _ _ _ (by omega)).trans (Gn.set_keep _ _ _ (by omega))) _).trans hHeld) (fun hHeld => ?_)
    clear hK K
    try simp only [Act.put, List.setIfInBounds_toArray, List.set_cons_zero, List.set_cons_succ]
    refine wpAnyH_ready (rs := [6]) (by kernel_rfl) (by simp) ?_
    refine AllReadyH.cons rfl (fun K hK => ?_) AllReadyH.nil
    go_simp
    refine hK.out _ _ (hHeld) (fun hHeld => ?_)
    clear hK K
    try simp only [Act.put, List.setIfInBounds_toArray, List.set_cons_zero, List.set_cons_succ]
    refine wpAnyH_done (by kernel_rfl) ?_ _
    refine NoPanic.normal ?_
    go_wp2_with fail
    refine bodyPost_ret (results_ct rfl _ _ (W.heap.size + 1) 43 _ (0, 0) _ rfl HRS.out Try.underlying43 rfl rfl) rfl ?_
    rw [HRG.out]
    exact ⟨rfl, HFI.out.trans (Gn.below_drew (Below.refl _ _))⟩
  | ok p =>
    obtain ⟨t, s', nd2⟩ := p
    obtain ⟨a', rfl, rfl, ha1, ha2, ha3, hnx⟩ := hend
    have hE := (hnx.under hb3).box
    have k1 := cell_of_row _ _ 1 _ _ (0, 0) hE
    have k3 := cell_of_row _ _ 3 _ _ (0, 0) hE
    have kf3 := Gn.frozen_row hE 3
    by_cases hfull : a' < B.size
    · have hne : ¬ (bs B).drop a' = [] := fun h => by
        have h5 : ((bs B).drop a').length = B.size - a' := by rw [List.length_drop]; rfl
        rw [h] at h5
        simp at h5
        omega
      have HRE := Lib.hid (show RG_ = .error 4 from HRG.out.trans (if_neg hne))
      have hfull2 : (a' : Int) < (B.size : Int) := by omega
      have HE4 := Lib.hid (Gn.heap_set hE 3 (.int .i64 4))
      have hk4 := Gn.heap_set hE 3 (.int .i64 4)
      have HBX4 := Lib.hid (HBX.out.setCell (p := ⟨w1.heap.size, 3, none⟩) (by simp; omega) (.int .i64 4))
      have HRX4 := Lib.hid ((Gn.set_keep w3 3 (.int .i64 4) (show w1.heap.size ≠ W.heap.size + 1 by omega)).trans HRX.out)
      clear hnx hE hb3 ht7 HRG HBX HRX
      have HRG := Lib.hid HRE.out
      have HBX := Lib.hid HBX4.out
      have HRX := Lib.hid HRX4.out
      have hec2 : (4 : Int) ≠ 0 := by decide
      clear HRE HBX4 HRX4
      go_upto_region 5 with fail
      rw [← HW3.out]
      go_upto_region 7 with fail
      clear k1 k3 kf3
      have k3 := cell_of_row _ _ 3 _ _ (0, 0) hk4
      have HK3 := Lib.hid k3
      clear hk4
      have e2 : ((4 : Int) != 0) = true := by rw [bne_iff_ne]; exact hec2
      have r0 := cell_of_row _ _ 0 _ _ (0, 0) HRX.out
      have r1 := cell_of_row _ _ 1 _ _ (0, 0) HRX.out
      have rf0 := Gn.frozen_row HRX.out 0
      have rf1 := Gn.frozen_row HRX.out 1
      have HRS := Lib.hid (res_set HRX.out (.int .i64 0) (.slice none 0 0))
      have HFI := Lib.hid ((HBX.out.setCell (p := ⟨W.heap.size + 1, 0, none⟩) (by simp) (.int .i64 0)).setCell (p := ⟨W.heap.size + 1, 1, none⟩) (by simp) (.slice none 0 0))
      go_upto_region 8 with fail
      refine wp_region_noPanic ?_
      refine wp_region_held_drew (S := (fun w' : World => w'.cell? ⟨w1.heap.size, 3, none⟩ = some (.int .i64 4))) (by kernel_rfl) ?_ (fun hHeld => ?_)
      · exact HK3.out
      refine wpAnyH_take (i := 0) (v := ?_) rfl (by kernel_rfl) (by kernel_rfl) (by kernel_rfl) (fun _ _ _ h => h) (Or.inl ⟨by rfl, ?_⟩) (by assumption) ?_
      rotate_left
      · intro w hSw
        try dsimp only at hSw
        go_simp
        try with_reducible rfl
      try simp only [Act.put, List.setIfInBounds_toArray, List.set_cons_zero, List.set_cons_succ]
      refine wpAnyH_take (i := 1) (v := ?_) rfl (by kernel_rfl) (by kernel_rfl) (by kernel_rfl) (fun _ _ _ h => h) (Or.inl ⟨by rfl, ?_⟩) (by assumption) ?_
      rotate_left
      · intro w hSw
        try dsimp only at hSw
        go_simp
        try with_reducible rfl
      try simp only [Act.put, List.setIfInBounds_toArray, List.set_cons_zero, List.set_cons_succ]
      refine wpAnyH_take (i := 2) (v := ?_) rfl (by kernel_rfl) (by kernel_rfl) (by kernel_rfl) (fun _ _ _ h => h) (Or.inl ⟨by rfl, ?_⟩) (by assumption) ?_
      rotate_left
      · intro w hSw
        try dsimp only at hSw
        go_simp
        try with_reducible rfl
      try simp only [Act.put, List.setIfInBounds_toArray, List.set_cons_zero, List.set_cons_succ]
      refine wpAnyH_take (i := 3) (v := ?_) rfl (by kernel_rfl) (by kernel_rfl) (by kernel_rfl) (fun _ _ _ h => h) (Or.inl ⟨by rfl, ?_⟩) (by assumption) ?_
      rotate_left
      · intro w hSw
        try dsimp only at hSw
        go_simp
        try with_reducible rfl
      try simp only [Act.put, List.setIfInBounds_toArray, List.set_cons_zero, List.set_cons_succ]
      refine wpAnyH_take (i := 4) (v := ?_) rfl (by kernel_rfl) (by kernel_rfl) (by kernel_rfl) (fun _ _ _ h => h) (Or.inl ⟨by rfl, ?_⟩) (by assumption) ?_
      rotate_left
      · intro w hSw
        try dsimp only at hSw
        go_simp
        try with_reducible rfl
      try simp only [Act.put, List.setIfInBounds_toArray, List.set_cons_zero, List.set_cons_succ]
      refine wpAnyH_ready (rs := [5]) (by kernel_rfl) (by simp) ?_
      refine AllReadyH.cons rfl (fun K hK => ?_) AllReadyH.nil
      go_simp
      refine hK.out _ _ ((Gn.cell_same ((Gn.set_keep _ _ _ (by omega)).trans (Gn.set_keep _ _ _ (by omega))) _).trans hHeld) (fun hHeld => ?_)
      clear hK K
      try simp only [Act.put, List.setIfInBounds_toArray, List.set_cons_zero, List.set_cons_succ]
      refine wpAnyH_ready (rs := [6]) (by kernel_rfl) (by simp) ?_
      refine AllReadyH.cons rfl (fun K hK => ?_) AllReadyH.nil
      go_simp
      refine hK.out _ _ (hHeld) (fun hHeld => ?_)
      clear hK K
      try simp only [Act.put, List.setIfInBounds_toArray, List.set_cons_zero, List.set_cons_succ]
      refine wpAnyH_done (by kernel_rfl) ?_ _
      refine NoPanic.normal ?_
      go_wp2_with fail
      refine bodyPost_ret (results_ct rfl _ _ (W.heap.size + 1) 43 _ (0, 0) _ rfl HRS.out Try.underlying43 rfl rfl) rfl ?_
      rw [HRG.out]
      exact ⟨rfl, HFI.out.trans (Gn.below_drew (Below.refl _ _))⟩
    · have hnil : (bs B).drop a' = [] := List.drop_eq_nil_of_le (by show B.size ≤ a'; omega)
      have HRE := Lib.hid (show RG_ = .ok t from HRG.out.trans (if_pos hnil))
      have hfull2 : ¬ (a' : Int) < (B.size : Int) := by omega
      have r0 := cell_of_row _ _ 0 _ _ (0, 0) HRX.out
      have r1 := cell_of_row _ _ 1 _ _ (0, 0) HRX.out
      have rf0 := Gn.frozen_row HRX.out 0
      have rf1 := Gn.frozen_row HRX.out 1
      have q0 := cell_of_row _ _ 0 _ _ (0, 0) HT7.out
      have q1 := cell_of_row _ _ 1 _ _ (0, 0) HT7.out
      have HRS := Lib.hid (res_set HRX.out (.int .i64 n) (.slice A m c))
      have hk9 : ∀ b, W.heap.size + 1 ≠ b → ((w3.setCell ⟨W.heap.size + 1, 0, none⟩ (.int .i64 n)).setCell ⟨W.heap.size + 1, 1, none⟩ (.slice A m c)).heap[b]? = w3.heap[b]? := fun b hb => (Gn.set_keep _ 1 _ hb).trans (Gn.set_keep _ 0 _ hb)
      have HFI := Lib.hid (show Got W.heap.size (.ok t) (.returned (.tuple #[.agg #[.int .i64 n, .slice A m c], .int .i64 0])) ((w3.setCell ⟨W.heap.size + 1, 0, none⟩ (.int .i64 n)).setCell ⟨W.heap.size + 1, 1, none⟩ (.slice A m c)) ∧ Below W.heap.size W ((w3.setCell ⟨W.heap.size + 1, 0, none⟩ (.int .i64 n)).setCell ⟨W.heap.size + 1, 1, none⟩ (.slice A m c)) from
        ⟨⟨_, _, rfl, HT.out.keep (by simp [World.setCell]) fun r hr _ => ⟨by have := hr; simp at this; omega, fun j => Gn.cell_same (hk9 r (by have := hr; simp at this; omega)) j⟩⟩, (HBX.out.setCell (by simp) _).setCell (by simp) _⟩)
      clear hnx hE hb3 ht7 HRG HBX HRX hk9
      go_upto_region 5 with fail
      rw [← HW3.out]
      go_wp2_with fail
      refine bodyPost_ret (results_ct rfl _ _ (W.heap.size + 1) 43 _ (0, 0) _ rfl HRS.out Try.underlying43 rfl rfl) rfl ?_
      rw [HRE.out]
      exact HFI.out
end Go.Proofs.Ytjlppffkacimoaa.Tr
