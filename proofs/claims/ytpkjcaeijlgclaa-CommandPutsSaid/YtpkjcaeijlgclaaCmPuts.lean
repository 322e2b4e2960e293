/-
  Layer 21: the walk of CommandPuts.
-/
import Derived.Test.YtpkjcaeijlgclaaCmO
import Derived.Test.YtpkjcaeijlgclaaLooseD
namespace Go.Proofs.Ytpkjcaeijlgclaa.Cm
open Go.RowKit
open Oct (pb bs Strs)
open Lx (goodB)
open Gn (Asks)
set_option maxRecDepth 100000
set_option linter.unusedSimpArgs false
set_option linter.unusedVariables false
set_option maxHeartbeats 16000000 in
theorem puts_walk (c : Cmd) (v : Value) (w : World) (hv : CmdAt w c v) (hf : Short c) :
    Calls Try.prog 3 #[v] w fun e w' => e = .returned (.bool true) ∧ Below w.heap.size w w' := by
  obtain ⟨g0, hg0⟩ : ∃ g, g = goodC c := ⟨_, rfl⟩
  obtain ⟨l0, hl0⟩ : ∃ g, g = largeC c := ⟨_, rfl⟩
  have HLG := Lib.hid (fun (w' : World) (b : Below w.heap.size w w') => show Calls Try.prog 9 #[v] w' (Asks l0 w') by rw [hl0]; exact large_any c v w' (hv.under b) hf.word)
  have HBKT := Lib.hid (get_put c)
  have HPC := Lib.hid (show putC c = if g0 = true then qCmd c else [] by rw [hg0]; rfl)
  have HSAME := Lib.hid (show sameC c c = true from (sameC_iff c c).2 rfl)
  have HGC := Lib.hid hg0
  have HLC := Lib.hid (show l0 = false → c.word.length ≤ 80 from fun h => by
    rw [h] at hl0
    unfold largeC at hl0
    have := hl0.symm
    simp only [Bool.or_eq_false_iff, decide_eq_false_iff_not] at this
    omega)
  obtain ⟨a, cap, rfl, hs⟩ := hv
  obtain ⟨kind, who, nm, oth, txt, word, n0, n1, n2, n3⟩ := c
  obtain ⟨h1, h2, h3, h4, h5⟩ := hf
  dsimp only at *
  obtain ⟨n, hn⟩ : ∃ n, n = word.length := ⟨_, rfl⟩
  rw [← hn] at hs h5 HLG HLC ⊢
  have HN := Lib.hid hn.symm
  have HGD := Lib.hid (fun (w : World) (A : Option Addr) (k : Nat) (h : Strs w A n word) => show Calls Try.prog 11 #[.agg #[.int .i64 kind, .string who, .string nm, .string oth, .string txt, .slice A n k, .int .i64 n0, .int .i64 n1, .int .i64 n2, .int .i64 n3]] w (Asks g0 w) by rw [HGC.out]; exact good_any kind who nm oth txt word n0 n1 n2 n3 A n k w HN.out h h1 h2 h3 h4 h5)
  have HRG := Lib.hid (fun (w : World) (A : Option Addr) (k : Nat) (h : Strs w A n word) => show Calls Try.prog 12 #[.agg #[.int .i64 kind, .string who, .string nm, .string oth, .string txt, .slice A n k, .int .i64 n0, .int .i64 n1, .int .i64 n2, .int .i64 n3]] w (Asks g0 w) by rw [HGC.out]; exact rgood_any kind who nm oth txt word n0 n1 n2 n3 A n k w HN.out h h1 h2 h3 h4 h5)
  obtain ⟨s, hs0⟩ : ∃ s, s = mkS (putC ⟨kind, who, nm, oth, txt, word, n0, n1, n2, n3⟩) := ⟨_, rfl⟩
  have HPT := Lib.hid (fun (w : World) (A : Option Addr) (k : Nat) (h : Strs w A n word) => show Calls Try.prog 10 #[.agg #[.int .i64 kind, .string who, .string nm, .string oth, .string txt, .slice A n k, .int .i64 n0, .int .i64 n1, .int .i64 n2, .int .i64 n3]] w fun e w' => e = .returned (.string s) ∧ Below w.heap.size w w' by rw [hs0]; exact put_any kind who nm oth txt word n0 n1 n2 n3 A n k w HN.out h h1 h2 h3 h4 h5)
  have HRP := Lib.hid (fun (w : World) (A : Option Addr) (k : Nat) (h : Strs w A n word) => show Calls Try.prog 13 #[.agg #[.int .i64 kind, .string who, .string nm, .string oth, .string txt, .slice A n k, .int .i64 n0, .int .i64 n1, .int .i64 n2, .int .i64 n3]] w fun e w' => e = .returned (.string s) ∧ Below w.heap.size w w' by rw [hs0]; exact rput_any kind who nm oth txt word n0 n1 n2 n3 A n k w HN.out h h1 h2 h3 h4 h5)
  have HS0 := Lib.hid hs0
  obtain ⟨V0, hV⟩ : ∃ V, V = w.alloc (.cells #[.int .i64 kind, .string who, .string nm, .string oth, .string txt, .slice a n cap, .int .i64 n0, .int .i64 n1, .int .i64 n2, .int .i64 n3] 25) := ⟨_, rfl⟩
  have hb : Below w.heap.size w V0 := by rw [hV]; exact (Below.refl _ w).alloc (Nat.le_refl _) _
  have hx : V0.heap[w.heap.size]? = some (.cells #[.int .i64 kind, .string who, .string nm, .string oth, .string txt, .slice a n cap, .int .i64 n0, .int .i64 n1, .int .i64 n2, .int .i64 n3] 25 (0, 0)) := by rw [hV]; exact heap_alloc_new w _
  obtain ⟨rb, hrb⟩ : ∃ r, r = w.heap.size := ⟨_, rfl⟩
  rw [← hrb] at hx
  have HX0 := Lib.hid hx
  have HB0 := Lib.hid hb
  have HV0 := Lib.hid hV
  have HRR := Lib.hid hrb
  have HWW := Lib.hid hs
  clear hg0 hl0 hs0 hn hV hb hx hrb hs
  cases l0 with
  | true =>
    go_enter Try.func3, Try.ntmps3
    go_upto_region 1 with fail
    rw [← HV0.out, ← HRR.out]
    go_wp2_with fail
    refine (speaks_any _).mono ?_
    rintro e w1 ⟨rfl, b1⟩
    have HB1 := Lib.hid (HB0.out.trans (b1.mono HB0.out.size))
    have hx1 := (b1.block _ (Gn.heap_lt HX0.out)).trans HX0.out
    clear b1
    have x0 := cell_of_row _ _ 0 _ _ (0, 0) hx1
    have x1 := cell_of_row _ _ 1 _ _ (0, 0) hx1
    have x2 := cell_of_row _ _ 2 _ _ (0, 0) hx1
    have x3 := cell_of_row _ _ 3 _ _ (0, 0) hx1
    have x4 := cell_of_row _ _ 4 _ _ (0, 0) hx1
    have x5 := cell_of_row _ _ 5 _ _ (0, 0) hx1
    have x6 := cell_of_row _ _ 6 _ _ (0, 0) hx1
    have x7 := cell_of_row _ _ 7 _ _ (0, 0) hx1
    have x8 := cell_of_row _ _ 8 _ _ (0, 0) hx1
    have x9 := cell_of_row _ _ 9 _ _ (0, 0) hx1
    clear hx1
    go_wp2_with fail
    refine (HLG.out _ HB1.out).mono ?_
    rintro e w2 ⟨rfl, b2⟩
    go_wp2
    go_ret
    exact ⟨rfl, HB1.out.trans (b2.mono HB1.out.size)⟩
  | false =>
    have hn80 : n ≤ 80 := HLC.out rfl
    go_enter Try.func3, Try.ntmps3
    go_upto_region 1 with fail
    rw [← HV0.out, ← HRR.out]
    go_wp2_with fail
    refine (speaks_any _).mono ?_
    rintro e w1 ⟨rfl, b1⟩
    have HB1 := Lib.hid (HB0.out.trans (b1.mono HB0.out.size))
    have hx1 := (b1.block _ (Gn.heap_lt HX0.out)).trans HX0.out
    have HX1 := Lib.hid hx1
    clear b1
    have x0 := cell_of_row _ _ 0 _ _ (0, 0) hx1
    have x1 := cell_of_row _ _ 1 _ _ (0, 0) hx1
    have x2 := cell_of_row _ _ 2 _ _ (0, 0) hx1
    have x3 := cell_of_row _ _ 3 _ _ (0, 0) hx1
    have x4 := cell_of_row _ _ 4 _ _ (0, 0) hx1
    have x5 := cell_of_row _ _ 5 _ _ (0, 0) hx1
    have x6 := cell_of_row _ _ 6 _ _ (0, 0) hx1
    have x7 := cell_of_row _ _ 7 _ _ (0, 0) hx1
    have x8 := cell_of_row _ _ 8 _ _ (0, 0) hx1
    have x9 := cell_of_row _ _ 9 _ _ (0, 0) hx1
    clear hx1
    go_wp2_with fail
    refine (HLG.out _ HB1.out).mono ?_
    rintro e V ⟨rfl, b2⟩
    have HBV := Lib.hid (HB1.out.trans (b2.mono HB1.out.size))
    have HRB := Lib.hid ((b2.block _ (Gn.heap_lt HX1.out)).trans HX1.out)
    have HWD := Lib.hid (Strs.under HWW.out HBV.out)
    clear b2 x0 x1 x2 x3 x4 x5 x6 x7 x8 x9
    go_upto_region 5 with fail
    have HSS := Lib.hid (fun (w' : World) (b : Below V.heap.size V w') => show (fun w' : World => w'.cell? ⟨rb, 0, none⟩ = some (.int .i64 kind) ∧ w'.cell? ⟨rb, 1, none⟩ = some (.string who) ∧ w'.cell? ⟨rb, 2, none⟩ = some (.string nm) ∧ w'.cell? ⟨rb, 3, none⟩ = some (.string oth) ∧ w'.cell? ⟨rb, 4, none⟩ = some (.string txt) ∧ w'.cell? ⟨rb, 5, none⟩ = some (.slice a n cap) ∧ w'.cell? ⟨rb, 6, none⟩ = some (.int .i64 n0) ∧ w'.cell? ⟨rb, 7, none⟩ = some (.int .i64 n1) ∧ w'.cell? ⟨rb, 8, none⟩ = some (.int .i64 n2) ∧ w'.cell? ⟨rb, 9, none⟩ = some (.int .i64 n3)) w' from by
      have hx := (b.block _ (Gn.heap_lt HRB.out)).trans HRB.out
      exact ⟨cell_of_row _ _ 0 _ _ (0, 0) hx, cell_of_row _ _ 1 _ _ (0, 0) hx, cell_of_row _ _ 2 _ _ (0, 0) hx, cell_of_row _ _ 3 _ _ (0, 0) hx, cell_of_row _ _ 4 _ _ (0, 0) hx, cell_of_row _ _ 5 _ _ (0, 0) hx, cell_of_row _ _ 6 _ _ (0, 0) hx, cell_of_row _ _ 7 _ _ (0, 0) hx, cell_of_row _ _ 8 _ _ (0, 0) hx, cell_of_row _ _ 9 _ _ (0, 0) hx⟩)
    go_cut [3] from 12 to 28 (fun sa wx => ∃ (q : Nat) (A5 : Option Addr) (c5 : Nat), sa = .pointer (some ⟨q, 0, none⟩) ∧ Dup V wx q A5 c5 n kind who nm oth txt word n0 n1 n2 n3)
    case first =>
      refine wp_region_noPanic ?_
      refine wp_region_held_drew (S := (fun w' : World => w'.cell? ⟨rb, 0, none⟩ = some (.int .i64 kind) ∧ w'.cell? ⟨rb, 1, none⟩ = some (.string who) ∧ w'.cell? ⟨rb, 2, none⟩ = some (.string nm) ∧ w'.cell? ⟨rb, 3, none⟩ = some (.string oth) ∧ w'.cell? ⟨rb, 4, none⟩ = some (.string txt) ∧ w'.cell? ⟨rb, 5, none⟩ = some (.slice a n cap) ∧ w'.cell? ⟨rb, 6, none⟩ = some (.int .i64 n0) ∧ w'.cell? ⟨rb, 7, none⟩ = some (.int .i64 n1) ∧ w'.cell? ⟨rb, 8, none⟩ = some (.int .i64 n2) ∧ w'.cell? ⟨rb, 9, none⟩ = some (.int .i64 n3))) (by kernel_rfl) ?_ (fun hHeld => ?_)
      · exact HSS.out _ (Gn.below_drew (Below.refl _ _))
      conv in Array.replicate _ false => change #[false, false, false, false, false, false, false, false, false, false, false, false, false, false, false, false, false, false, false]
      refine wpAnyH_take (i := 0) (v := ?_) rfl (by kernel_rfl) (by kernel_rfl) (by kernel_rfl) (fun _ _ _ h => h) (Or.inl ⟨by rfl, ?_⟩) (by assumption) ?_
      rotate_left
      · intro w hSw
        try dsimp only at hSw
        go_simp
        try with_reducible rfl
      try simp only [Act.put, List.getElem_toArray, List.getElem_cons_zero, List.getElem_cons_succ, List.setIfInBounds_toArray, List.set_cons_zero, List.set_cons_succ]
      refine wpAnyH_take (i := 1) (v := ?_) rfl (by kernel_rfl) (by kernel_rfl) (by kernel_rfl) (fun _ _ _ h => h) (Or.inl ⟨by rfl, ?_⟩) (by assumption) ?_
      rotate_left
      · intro w hSw
        try dsimp only at hSw
        go_simp
        try with_reducible rfl
      try simp only [Act.put, List.getElem_toArray, List.getElem_cons_zero, List.getElem_cons_succ, List.setIfInBounds_toArray, List.set_cons_zero, List.set_cons_succ]
      refine wpAnyH_take (i := 2) (v := ?_) rfl (by kernel_rfl) (by kernel_rfl) (by kernel_rfl) (fun _ _ _ h => h) (Or.inl ⟨by rfl, ?_⟩) (by assumption) ?_
      rotate_left
      · intro w hSw
        try dsimp only at hSw
        go_simp
        try with_reducible rfl
      try simp only [Act.put, List.getElem_toArray, List.getElem_cons_zero, List.getElem_cons_succ, List.setIfInBounds_toArray, List.set_cons_zero, List.set_cons_succ]
      refine wpAnyH_take (i := 3) (v := ?_) rfl (by kernel_rfl) (by kernel_rfl) (by kernel_rfl) (fun _ _ _ h => h) (Or.inl ⟨by rfl, ?_⟩) (by assumption) ?_
      rotate_left
      · intro w hSw
        try dsimp only at hSw
        go_simp
        try with_reducible rfl
      try simp only [Act.put, List.getElem_toArray, List.getElem_cons_zero, List.getElem_cons_succ, List.setIfInBounds_toArray, List.set_cons_zero, List.set_cons_succ]
      refine wpAnyH_take (i := 4) (v := ?_) rfl (by kernel_rfl) (by kernel_rfl) (by kernel_rfl) (fun _ _ _ h => h) (Or.inl ⟨by rfl, ?_⟩) (by assumption) ?_
      rotate_left
      · intro w hSw
        try dsimp only at hSw
        go_simp
        try with_reducible rfl
      try simp only [Act.put, List.getElem_toArray, List.getElem_cons_zero, List.getElem_cons_succ, List.setIfInBounds_toArray, List.set_cons_zero, List.set_cons_succ]
      refine wpAnyH_take (i := 5) (v := ?_) rfl (by kernel_rfl) (by kernel_rfl) (by kernel_rfl) (fun _ _ _ h => h) (Or.inl ⟨by rfl, ?_⟩) (by assumption) ?_
      rotate_left
      · intro w hSw
        try dsimp only at hSw
        go_simp
        try with_reducible rfl
      try simp only [Act.put, List.getElem_toArray, List.getElem_cons_zero, List.getElem_cons_succ, List.setIfInBounds_toArray, List.set_cons_zero, List.set_cons_succ]
      refine wpAnyH_take (i := 6) (v := ?_) rfl (by kernel_rfl) (by kernel_rfl) (by kernel_rfl) (fun _ _ _ h => h) (Or.inl ⟨by rfl, ?_⟩) (by assumption) ?_
      rotate_left
      · intro w hSw
        try dsimp only at hSw
        go_simp
        try with_reducible rfl
      try simp only [Act.put, List.getElem_toArray, List.getElem_cons_zero, List.getElem_cons_succ, List.setIfInBounds_toArray, List.set_cons_zero, List.set_cons_succ]
      refine wpAnyH_take (i := 7) (v := ?_) rfl (by kernel_rfl) (by kernel_rfl) (by kernel_rfl) (fun _ _ _ h => h) (Or.inl ⟨by rfl, ?_⟩) (by assumption) ?_
      rotate_left
      · intro w hSw
        try dsimp only at hSw
        go_simp
        try with_reducible rfl
      try simp only [Act.put, List.getElem_toArray, List.getElem_cons_zero, List.getElem_cons_succ, List.setIfInBounds_toArray, List.set_cons_zero, List.set_cons_succ]
      refine wpAnyH_take (i := 8) (v := ?_) rfl (by kernel_rfl) (by kernel_rfl) (by kernel_rfl) (fun _ _ _ h => h) (Or.inl ⟨by rfl, ?_⟩) (by assumption) ?_
      rotate_left
      · intro w hSw
        try dsimp only at hSw
        go_simp
        try with_reducible rfl
      try simp only [Act.put, List.getElem_toArray, List.getElem_cons_zero, List.getElem_cons_succ, List.setIfInBounds_toArray, List.set_cons_zero, List.set_cons_succ]
      refine wpAnyH_take (i := 9) (v := ?_) rfl (by kernel_rfl) (by kernel_rfl) (by kernel_rfl) (fun _ _ _ h => h) (Or.inl ⟨by rfl, ?_⟩) (by assumption) ?_
      rotate_left
      · intro w hSw
        try dsimp only at hSw
        go_simp
        try with_reducible rfl
      try simp only [Act.put, List.getElem_toArray, List.getElem_cons_zero, List.getElem_cons_succ, List.setIfInBounds_toArray, List.set_cons_zero, List.set_cons_succ]
      refine wpAnyH_take (i := 11) (v := ?_) rfl (by kernel_rfl) (by kernel_rfl) (by kernel_rfl) (fun _ _ _ h => h) (Or.inl ⟨by rfl, ?_⟩) (by assumption) ?_
      rotate_left
      · intro w hSw
        try dsimp only at hSw
        go_simp
        try with_reducible rfl
      try simp only [Act.put, List.getElem_toArray, List.getElem_cons_zero, List.getElem_cons_succ, List.setIfInBounds_toArray, List.set_cons_zero, List.set_cons_succ]
      refine wpAnyH_take (i := 12) (v := ?_) rfl (by kernel_rfl) (by kernel_rfl) (by kernel_rfl) (fun _ _ _ h => h) (Or.inl ⟨by rfl, ?_⟩) (by assumption) ?_
      rotate_left
      · intro w hSw
        try dsimp only at hSw
        go_simp
        try with_reducible rfl
      try simp only [Act.put, List.getElem_toArray, List.getElem_cons_zero, List.getElem_cons_succ, List.setIfInBounds_toArray, List.set_cons_zero, List.set_cons_succ]
      refine wpAnyH_take (i := 14) (v := ?_) rfl (by kernel_rfl) (by kernel_rfl) (by kernel_rfl) (fun _ _ _ h => h) (Or.inl ⟨by rfl, ?_⟩) (by assumption) ?_
      rotate_left
      · intro w hSw
        try dsimp only at hSw
        go_simp
        try with_reducible rfl
      try simp only [Act.put, List.getElem_toArray, List.getElem_cons_zero, List.getElem_cons_succ, List.setIfInBounds_toArray, List.set_cons_zero, List.set_cons_succ]
      refine wpAnyH_take (i := 15) (v := ?_) rfl (by kernel_rfl) (by kernel_rfl) (by kernel_rfl) (fun _ _ _ h => h) (Or.inl ⟨by rfl, ?_⟩) (by assumption) ?_
      rotate_left
      · intro w hSw
        try dsimp only at hSw
        go_simp
        try with_reducible rfl
      try simp only [Act.put, List.getElem_toArray, List.getElem_cons_zero, List.getElem_cons_succ, List.setIfInBounds_toArray, List.set_cons_zero, List.set_cons_succ]
      refine wpAnyH_ready (rs := [10, 17]) (by kernel_rfl) (by simp) ?_
      refine AllReadyH.cons rfl (fun K hK => ?_) ?_
      · go_simp
        have HBE := Lib.hid ((Gn.below_drew (Below.refl V.heap.size V)).alloc (Nat.le_refl _) (.cells #[] 9))
        have HOE := Lib.hid (own_empty (base := V.heap.size) (heap_alloc_new V.drew (.cells #[] 9)) (Nat.le_refl _))
        skip
        refine hK.out _ _ (HSS.out _ HBE.out) (fun hHeld => ?_)
        clear hK K
        try simp only [Act.put, List.getElem_toArray, List.getElem_cons_zero, List.getElem_cons_succ, List.setIfInBounds_toArray, List.set_cons_zero, List.set_cons_succ]
        refine wpAnyH_ready (rs := [13, 17]) (by kernel_rfl) (by simp) ?_
        refine AllReadyH.cons rfl (fun K hK => ?_) ?_
        · refine step_append_word _ rfl _ _ rfl V.heap.size _ 0 [] rfl HOE.out a n cap word rfl (Strs.under HWD.out HBE.out) (by omega) HBE.out.size ?_
          intro v5 w5 ho5 hg5
          rw [Nat.zero_add, List.nil_append] at ho5
          obtain ⟨A5, c5, rfl⟩ := Gn.slice_of ho5
          have HDS := Lib.hid (show DupS V w5 (.slice A5 n c5) n word from ⟨grown_below hg5 HBE.out (fun k hk => Gn.own_block HOE.out k hk), ho5⟩)
          clear ho5 hg5
          refine hK.out _ _ (HSS.out _ HDS.out.bel) (fun hHeld => ?_)
          clear hK K
          try simp only [Act.put, List.getElem_toArray, List.getElem_cons_zero, List.getElem_cons_succ, List.setIfInBounds_toArray, List.set_cons_zero, List.set_cons_succ]
          refine wpAnyH_take (i := 16) (v := ?_) rfl (by kernel_rfl) (by kernel_rfl) (by kernel_rfl) (fun _ _ _ h => h) (Or.inl ⟨by rfl, ?_⟩) (by assumption) ?_
          rotate_left
          · intro w hSw
            try dsimp only at hSw
            go_simp
            try with_reducible rfl
          try simp only [Act.put, List.getElem_toArray, List.getElem_cons_zero, List.getElem_cons_succ, List.setIfInBounds_toArray, List.set_cons_zero, List.set_cons_succ]
          refine wpAnyH_ready (rs := [17]) (by kernel_rfl) (by simp) ?_
          refine AllReadyH.cons rfl (fun K hK => ?_) AllReadyH.nil
          go_simp
          refine hK.out _ _ (HSS.out _ (HDS.out.bel.trans (((Below.refl _ _).alloc (Nat.le_refl _) _).mono HDS.out.bel.size))) (fun hHeld => ?_)
          clear hK K
          try simp only [Act.put, List.getElem_toArray, List.getElem_cons_zero, List.getElem_cons_succ, List.setIfInBounds_toArray, List.set_cons_zero, List.set_cons_succ]
          refine wpAnyH_ready (rs := [18]) (by kernel_rfl) (by simp) ?_
          refine AllReadyH.cons rfl (fun K hK => ?_) AllReadyH.nil
          go_simp
          have HDD := Lib.hid (HDS.out.late (kind := kind) (who := who) (nm := nm) (oth := oth) (txt := txt) (n0 := n0) (n1 := n1) (n2 := n2) (n3 := n3))
          refine hK.out _ _ (HSS.out _ HDD.out.1) (fun hHeld => ?_)
          clear hK K
          try simp only [Act.put, List.getElem_toArray, List.getElem_cons_zero, List.getElem_cons_succ, List.setIfInBounds_toArray, List.set_cons_zero, List.set_cons_succ]
          refine wpAnyH_done (by kernel_rfl) ?_ _
          refine NoPanic.normal ?_
          go_wp2_with fail
          go_meet
          case rel => exact ⟨w5.heap.size, A5, c5, rfl, HDD.out⟩
        refine AllReadyH.cons rfl (fun K hK => ?_) AllReadyH.nil
        · go_simp
          have HQX := Lib.hid (show ((V.drew.alloc (.cells #[] 9)).alloc (.cells #[.int .i64 0, .string ⟨#[]⟩, .string ⟨#[]⟩, .string ⟨#[]⟩, .string ⟨#[]⟩, .slice none 0 0, .int .i64 0, .int .i64 0, .int .i64 0, .int .i64 0] 28)).heap[V.heap.size + 1]? = some (.cells #[.int .i64 0, .string ⟨#[]⟩, .string ⟨#[]⟩, .string ⟨#[]⟩, .string ⟨#[]⟩, .slice none 0 0, .int .i64 0, .int .i64 0, .int .i64 0, .int .i64 0] 28 (0, 0)) from by have := heap_alloc_new (V.drew.alloc (.cells #[] 9)) (.cells #[.int .i64 0, .string ⟨#[]⟩, .string ⟨#[]⟩, .string ⟨#[]⟩, .string ⟨#[]⟩, .slice none 0 0, .int .i64 0, .int .i64 0, .int .i64 0, .int .i64 0] 28); rwa [show (V.drew.alloc (.cells #[] 9)).heap.size = V.heap.size + 1 by simp] at this)
          have HOE := Lib.hid (HOE.out.alloc (.cells #[.int .i64 0, .string ⟨#[]⟩, .string ⟨#[]⟩, .string ⟨#[]⟩, .string ⟨#[]⟩, .slice none 0 0, .int .i64 0, .int .i64 0, .int .i64 0, .int .i64 0] 28))
          have HBE := Lib.hid (HBE.out.alloc HBE.out.size (.cells #[.int .i64 0, .string ⟨#[]⟩, .string ⟨#[]⟩, .string ⟨#[]⟩, .string ⟨#[]⟩, .slice none 0 0, .int .i64 0, .int .i64 0, .int .i64 0, .int .i64 0] 28))
          refine hK.out _ _ (HSS.out _ HBE.out) (fun hHeld => ?_)
          clear hK K
          try simp only [Act.put, List.getElem_toArray, List.getElem_cons_zero, List.getElem_cons_succ, List.setIfInBounds_toArray, List.set_cons_zero, List.set_cons_succ]
          refine wpAnyH_ready (rs := [13]) (by kernel_rfl) (by simp) ?_
          refine AllReadyH.cons rfl (fun K hK => ?_) AllReadyH.nil
          refine step_append_word _ rfl _ _ rfl V.heap.size _ 0 [] rfl HOE.out a n cap word rfl (Strs.under HWD.out HBE.out) (by omega) HBE.out.size ?_
          intro v5 w5 ho5 hg5
          rw [Nat.zero_add, List.nil_append] at ho5
          obtain ⟨A5, c5, rfl⟩ := Gn.slice_of ho5
          have HDS := Lib.hid (show DupS V w5 (.slice A5 n c5) n word from ⟨grown_below hg5 HBE.out (fun k hk => Gn.own_block HOE.out k hk), ho5⟩)
          have HX5 := Lib.hid (show w5.heap[(V.heap.size + 1)]? = some (.cells #[.int .i64 0, .string ⟨#[]⟩, .string ⟨#[]⟩, .string ⟨#[]⟩, .string ⟨#[]⟩, .slice none 0 0, .int .i64 0, .int .i64 0, .int .i64 0, .int .i64 0] 28 (0, 0)) from (Oct.grown_keeps hg5 HOE.out HQX.out (by decide)))
          have HQV := Lib.hid (show V.heap.size ≤ (V.heap.size + 1) by omega)
          have g0 := Gn.frozen_row HX5.out 0
          have g1 := Gn.frozen_row HX5.out 1
          have g2 := Gn.frozen_row HX5.out 2
          have g3 := Gn.frozen_row HX5.out 3
          have g4 := Gn.frozen_row HX5.out 4
          have g5 := Gn.frozen_row HX5.out 5
          have g6 := Gn.frozen_row HX5.out 6
          have g7 := Gn.frozen_row HX5.out 7
          have g8 := Gn.frozen_row HX5.out 8
          have g9 := Gn.frozen_row HX5.out 9
          have z0 := cell_of_row _ _ 0 _ _ (0, 0) HX5.out
          have z1 := cell_of_row _ _ 1 _ _ (0, 0) HX5.out
          have z2 := cell_of_row _ _ 2 _ _ (0, 0) HX5.out
          have z3 := cell_of_row _ _ 3 _ _ (0, 0) HX5.out
          have z4 := cell_of_row _ _ 4 _ _ (0, 0) HX5.out
          have z5 := cell_of_row _ _ 5 _ _ (0, 0) HX5.out
          have z6 := cell_of_row _ _ 6 _ _ (0, 0) HX5.out
          have z7 := cell_of_row _ _ 7 _ _ (0, 0) HX5.out
          have z8 := cell_of_row _ _ 8 _ _ (0, 0) HX5.out
          have z9 := cell_of_row _ _ 9 _ _ (0, 0) HX5.out
          clear ho5 hg5
          refine hK.out _ _ (HSS.out _ HDS.out.bel) (fun hHeld => ?_)
          clear hK K
          try simp only [Act.put, List.getElem_toArray, List.getElem_cons_zero, List.getElem_cons_succ, List.setIfInBounds_toArray, List.set_cons_zero, List.set_cons_succ]
          refine wpAnyH_take (i := 16) (v := ?_) rfl (by kernel_rfl) (by kernel_rfl) (by kernel_rfl) (fun _ _ _ h => h) (Or.inl ⟨by rfl, ?_⟩) (by assumption) ?_
          rotate_left
          · intro w hSw
            try dsimp only at hSw
            go_simp
            try with_reducible rfl
          try simp only [Act.put, List.getElem_toArray, List.getElem_cons_zero, List.getElem_cons_succ, List.setIfInBounds_toArray, List.set_cons_zero, List.set_cons_succ]
          refine wpAnyH_ready (rs := [18]) (by kernel_rfl) (by simp) ?_
          refine AllReadyH.cons rfl (fun K hK => ?_) AllReadyH.nil
          go_simp
          have HDD := Lib.hid (HDS.out.early (kind := kind) (who := who) (nm := nm) (oth := oth) (txt := txt) (n0 := n0) (n1 := n1) (n2 := n2) (n3 := n3) HQV.out HX5.out)
          refine hK.out _ _ (HSS.out _ HDD.out.1) (fun hHeld => ?_)
          clear hK K
          try simp only [Act.put, List.getElem_toArray, List.getElem_cons_zero, List.getElem_cons_succ, List.setIfInBounds_toArray, List.set_cons_zero, List.set_cons_succ]
          refine wpAnyH_done (by kernel_rfl) ?_ _
          refine NoPanic.normal ?_
          go_wp2_with fail
          go_meet
          case rel => exact ⟨(V.heap.size + 1), A5, c5, rfl, HDD.out⟩
      refine AllReadyH.cons rfl (fun K hK => ?_) AllReadyH.nil
      · go_simp
        have HQX := Lib.hid (heap_alloc_new V.drew (.cells #[.int .i64 0, .string ⟨#[]⟩, .string ⟨#[]⟩, .string ⟨#[]⟩, .string ⟨#[]⟩, .slice none 0 0, .int .i64 0, .int .i64 0, .int .i64 0, .int .i64 0] 28))
        have HBE := Lib.hid ((Gn.below_drew (Below.refl V.heap.size V)).alloc (Nat.le_refl _) (.cells #[.int .i64 0, .string ⟨#[]⟩, .string ⟨#[]⟩, .string ⟨#[]⟩, .string ⟨#[]⟩, .slice none 0 0, .int .i64 0, .int .i64 0, .int .i64 0, .int .i64 0] 28))
        refine hK.out _ _ (HSS.out _ HBE.out) (fun hHeld => ?_)
        clear hK K
        try simp only [Act.put, List.getElem_toArray, List.getElem_cons_zero, List.getElem_cons_succ, List.setIfInBounds_toArray, List.set_cons_zero, List.set_cons_succ]
        refine wpAnyH_ready (rs := [10]) (by kernel_rfl) (by simp) ?_
        refine AllReadyH.cons rfl (fun K hK => ?_) AllReadyH.nil
        go_simp
        have HOE := Lib.hid (show ((V.drew.alloc (.cells #[.int .i64 0, .string ⟨#[]⟩, .string ⟨#[]⟩, .string ⟨#[]⟩, .string ⟨#[]⟩, .slice none 0 0, .int .i64 0, .int .i64 0, .int .i64 0, .int .i64 0] 28)).alloc (.cells #[] 9)).ownsRow V.heap.size 9 1 (.slice (some ⟨V.heap.size + 1, 0, none⟩) 0 0) 0 [] from own_empty (base := V.heap.size) (by have := heap_alloc_new (V.drew.alloc (.cells #[.int .i64 0, .string ⟨#[]⟩, .string ⟨#[]⟩, .string ⟨#[]⟩, .string ⟨#[]⟩, .slice none 0 0, .int .i64 0, .int .i64 0, .int .i64 0, .int .i64 0] 28)) (.cells #[] 9); rwa [show (V.drew.alloc (.cells #[.int .i64 0, .string ⟨#[]⟩, .string ⟨#[]⟩, .string ⟨#[]⟩, .string ⟨#[]⟩, .slice none 0 0, .int .i64 0, .int .i64 0, .int .i64 0, .int .i64 0] 28)).heap.size = V.heap.size + 1 by simp] at this) (by omega))
        have HQX := Lib.hid (show ((V.drew.alloc (.cells #[.int .i64 0, .string ⟨#[]⟩, .string ⟨#[]⟩, .string ⟨#[]⟩, .string ⟨#[]⟩, .slice none 0 0, .int .i64 0, .int .i64 0, .int .i64 0, .int .i64 0] 28)).alloc (.cells #[] 9)).heap[V.heap.size]? = some (.cells #[.int .i64 0, .string ⟨#[]⟩, .string ⟨#[]⟩, .string ⟨#[]⟩, .string ⟨#[]⟩, .slice none 0 0, .int .i64 0, .int .i64 0, .int .i64 0, .int .i64 0] 28 (0, 0)) from (heap_alloc_old _ _ (Gn.heap_lt HQX.out)).trans HQX.out)
        have HBE := Lib.hid (HBE.out.alloc HBE.out.size (.cells #[] 9))
        refine hK.out _ _ (HSS.out _ HBE.out) (fun hHeld => ?_)
        clear hK K
        try simp only [Act.put, List.getElem_toArray, List.getElem_cons_zero, List.getElem_cons_succ, List.setIfInBounds_toArray, List.set_cons_zero, List.set_cons_succ]
        refine wpAnyH_ready (rs := [13]) (by kernel_rfl) (by simp) ?_
        refine AllReadyH.cons rfl (fun K hK => ?_) AllReadyH.nil
        refine step_append_word _ rfl _ _ rfl V.heap.size _ 0 [] rfl HOE.out a n cap word rfl (Strs.under HWD.out HBE.out) (by omega) HBE.out.size ?_
        intro v5 w5 ho5 hg5
        rw [Nat.zero_add, List.nil_append] at ho5
        obtain ⟨A5, c5, rfl⟩ := Gn.slice_of ho5
        have HDS := Lib.hid (show DupS V w5 (.slice A5 n c5) n word from ⟨grown_below hg5 HBE.out (fun k hk => Gn.own_block HOE.out k hk), ho5⟩)
        have HX5 := Lib.hid (show w5.heap[V.heap.size]? = some (.cells #[.int .i64 0, .string ⟨#[]⟩, .string ⟨#[]⟩, .string ⟨#[]⟩, .string ⟨#[]⟩, .slice none 0 0, .int .i64 0, .int .i64 0, .int .i64 0, .int .i64 0] 28 (0, 0)) from (Oct.grown_keeps hg5 HOE.out HQX.out (by decide)))
        have HQV := Lib.hid (show V.heap.size ≤ V.heap.size by omega)
        have g0 := Gn.frozen_row HX5.out 0
        have g1 := Gn.frozen_row HX5.out 1
        have g2 := Gn.frozen_row HX5.out 2
        have g3 := Gn.frozen_row HX5.out 3
        have g4 := Gn.frozen_row HX5.out 4
        have g5 := Gn.frozen_row HX5.out 5
        have g6 := Gn.frozen_row HX5.out 6
        have g7 := Gn.frozen_row HX5.out 7
        have g8 := Gn.frozen_row HX5.out 8
        have g9 := Gn.frozen_row HX5.out 9
        have z0 := cell_of_row _ _ 0 _ _ (0, 0) HX5.out
        have z1 := cell_of_row _ _ 1 _ _ (0, 0) HX5.out
        have z2 := cell_of_row _ _ 2 _ _ (0, 0) HX5.out
        have z3 := cell_of_row _ _ 3 _ _ (0, 0) HX5.out
        have z4 := cell_of_row _ _ 4 _ _ (0, 0) HX5.out
        have z5 := cell_of_row _ _ 5 _ _ (0, 0) HX5.out
        have z6 := cell_of_row _ _ 6 _ _ (0, 0) HX5.out
        have z7 := cell_of_row _ _ 7 _ _ (0, 0) HX5.out
        have z8 := cell_of_row _ _ 8 _ _ (0, 0) HX5.out
        have z9 := cell_of_row _ _ 9 _ _ (0, 0) HX5.out
        clear ho5 hg5
        refine hK.out _ _ (HSS.out _ HDS.out.bel) (fun hHeld => ?_)
        clear hK K
        try simp only [Act.put, List.getElem_toArray, List.getElem_cons_zero, List.getElem_cons_succ, List.setIfInBounds_toArray, List.set_cons_zero, List.set_cons_succ]
        refine wpAnyH_take (i := 16) (v := ?_) rfl (by kernel_rfl) (by kernel_rfl) (by kernel_rfl) (fun _ _ _ h => h) (Or.inl ⟨by rfl, ?_⟩) (by assumption) ?_
        rotate_left
        · intro w hSw
          try dsimp only at hSw
          go_simp
          try with_reducible rfl
        try simp only [Act.put, List.getElem_toArray, List.getElem_cons_zero, List.getElem_cons_succ, List.setIfInBounds_toArray, List.set_cons_zero, List.set_cons_succ]
        refine wpAnyH_ready (rs := [18]) (by kernel_rfl) (by simp) ?_
        refine AllReadyH.cons rfl (fun K hK => ?_) AllReadyH.nil
        go_simp
        have HDD := Lib.hid (HDS.out.early (kind := kind) (who := who) (nm := nm) (oth := oth) (txt := txt) (n0 := n0) (n1 := n1) (n2 := n2) (n3 := n3) HQV.out HX5.out)
        refine hK.out _ _ (HSS.out _ HDD.out.1) (fun hHeld => ?_)
        clear hK K
        try simp only [Act.put, List.getElem_toArray, List.getElem_cons_zero, List.getElem_cons_succ, List.setIfInBounds_toArray, List.set_cons_zero, List.set_cons_succ]
        refine wpAnyH_done (by kernel_rfl) ?_ _
        refine NoPanic.normal ?_
        go_wp2_with fail
        go_meet
        case rel => exact ⟨V.heap.size, A5, c5, rfl, HDD.out⟩
    case rest =>
      obtain ⟨q, A5, c5, rfl, hD⟩ := hcut
      obtain ⟨w3, rfl⟩ : ∃ w, w = wc := ⟨_, rfl⟩
      have HD := Lib.hid hD
      obtain ⟨hD1, hD2, hD3, hD4⟩ := hD
      have hr := (hD1.block _ (Gn.heap_lt HRB.out)).trans HRB.out
      obtain ⟨U, hU⟩ : ∃ U, U = w3.alloc (.cells #[.int .i64 kind, .string who, .string nm, .string oth, .string txt, .slice a n cap, .int .i64 n0, .int .i64 n1, .int .i64 n2, .int .i64 n3] 29) := ⟨_, rfl⟩
      have hbU : Below w3.heap.size w3 U := by rw [hU]; exact (Below.refl _ _).alloc (Nat.le_refl _) _
      have hxU : U.heap[w3.heap.size]? = some (.cells #[.int .i64 kind, .string who, .string nm, .string oth, .string txt, .slice a n cap, .int .i64 n0, .int .i64 n1, .int .i64 n2, .int .i64 n3] 29 (0, 0)) := by rw [hU]; exact heap_alloc_new _ _
      obtain ⟨q2, hq2⟩ : ∃ g, g = w3.heap.size := ⟨_, rfl⟩
      rw [← hq2] at hxU
      have HBU := Lib.hid (hD1.trans (hbU.mono hD1.size))
      have HQ1 := Lib.hid ((hbU.block _ (Gn.heap_lt hD3)).trans hD3)
      have HQ2 := Lib.hid hxU
      have HSA := Lib.hid (Strs.under HWD.out HBU.out)
      have HSB := Lib.hid (Strs.under hD4 hbU)
      have HU := Lib.hid hU
      have HQQ := Lib.hid hq2
      have x0 := cell_of_row _ _ 0 _ _ (0, 0) hr
      have x1 := cell_of_row _ _ 1 _ _ (0, 0) hr
      have x2 := cell_of_row _ _ 2 _ _ (0, 0) hr
      have x3 := cell_of_row _ _ 3 _ _ (0, 0) hr
      have x4 := cell_of_row _ _ 4 _ _ (0, 0) hr
      have x5 := cell_of_row _ _ 5 _ _ (0, 0) hr
      have x6 := cell_of_row _ _ 6 _ _ (0, 0) hr
      have x7 := cell_of_row _ _ 7 _ _ (0, 0) hr
      have x8 := cell_of_row _ _ 8 _ _ (0, 0) hr
      have x9 := cell_of_row _ _ 9 _ _ (0, 0) hr
      clear hD1 hD2 hD3 hD4 hr hU hbU hxU hq2
      go_upto_region 7 with fail
      rw [← HU.out, ← HQQ.out]
      clear x0 x1 x2 x3 x4 x5 x6 x7 x8 x9
      have x0 := cell_of_row _ _ 0 _ _ (0, 0) HQ1.out
      have x1 := cell_of_row _ _ 1 _ _ (0, 0) HQ1.out
      have x2 := cell_of_row _ _ 2 _ _ (0, 0) HQ1.out
      have x3 := cell_of_row _ _ 3 _ _ (0, 0) HQ1.out
      have x4 := cell_of_row _ _ 4 _ _ (0, 0) HQ1.out
      have x5 := cell_of_row _ _ 5 _ _ (0, 0) HQ1.out
      have x6 := cell_of_row _ _ 6 _ _ (0, 0) HQ1.out
      have x7 := cell_of_row _ _ 7 _ _ (0, 0) HQ1.out
      have x8 := cell_of_row _ _ 8 _ _ (0, 0) HQ1.out
      have x9 := cell_of_row _ _ 9 _ _ (0, 0) HQ1.out
      go_wp2_with fail
      refine (HPT.out _ _ _ HSB.out).mono ?_
      rintro e w4 ⟨rfl, b4⟩
      have HBW := Lib.hid ((HBV.out.trans (HBU.out.mono HBV.out.size)).trans (b4.mono (by have := HBV.out.size; have := HBU.out.size; omega)))
      have HXA := Lib.hid ((b4.block _ (Gn.heap_lt HQ1.out)).trans HQ1.out)
      have HXB := Lib.hid ((b4.block _ (Gn.heap_lt HQ2.out)).trans HQ2.out)
      have HA4 := Lib.hid (Strs.under HSA.out b4)
      have HB4 := Lib.hid (Strs.under HSB.out b4)
      clear b4 x0 x1 x2 x3 x4 x5 x6 x7 x8 x9
      have HCE := Lib.hid (fun (w' : World) (b9 : Below w4.heap.size w4 w') => show w'.cell? ⟨q, 0, none⟩ = some (.int .i64 kind) ∧ w'.cell? ⟨q, 1, none⟩ = some (.string who) ∧ w'.cell? ⟨q, 2, none⟩ = some (.string nm) ∧ w'.cell? ⟨q, 3, none⟩ = some (.string oth) ∧ w'.cell? ⟨q, 4, none⟩ = some (.string txt) ∧ w'.cell? ⟨q, 5, none⟩ = some (.slice A5 n c5) ∧ w'.cell? ⟨q, 6, none⟩ = some (.int .i64 n0) ∧ w'.cell? ⟨q, 7, none⟩ = some (.int .i64 n1) ∧ w'.cell? ⟨q, 8, none⟩ = some (.int .i64 n2) ∧ w'.cell? ⟨q, 9, none⟩ = some (.int .i64 n3) ∧ w'.cell? ⟨q2, 0, none⟩ = some (.int .i64 kind) ∧ w'.cell? ⟨q2, 1, none⟩ = some (.string who) ∧ w'.cell? ⟨q2, 2, none⟩ = some (.string nm) ∧ w'.cell? ⟨q2, 3, none⟩ = some (.string oth) ∧ w'.cell? ⟨q2, 4, none⟩ = some (.string txt) ∧ w'.cell? ⟨q2, 5, none⟩ = some (.slice a n cap) ∧ w'.cell? ⟨q2, 6, none⟩ = some (.int .i64 n0) ∧ w'.cell? ⟨q2, 7, none⟩ = some (.int .i64 n1) ∧ w'.cell? ⟨q2, 8, none⟩ = some (.int .i64 n2) ∧ w'.cell? ⟨q2, 9, none⟩ = some (.int .i64 n3) from by
        have hx := (b9.block _ (Gn.heap_lt HXA.out)).trans HXA.out
        have hy := (b9.block _ (Gn.heap_lt HXB.out)).trans HXB.out
        exact ⟨cell_of_row _ _ 0 _ _ (0, 0) hx, cell_of_row _ _ 1 _ _ (0, 0) hx, cell_of_row _ _ 2 _ _ (0, 0) hx, cell_of_row _ _ 3 _ _ (0, 0) hx, cell_of_row _ _ 4 _ _ (0, 0) hx, cell_of_row _ _ 5 _ _ (0, 0) hx, cell_of_row _ _ 6 _ _ (0, 0) hx, cell_of_row _ _ 7 _ _ (0, 0) hx, cell_of_row _ _ 8 _ _ (0, 0) hx, cell_of_row _ _ 9 _ _ (0, 0) hx, cell_of_row _ _ 0 _ _ (0, 0) hy, cell_of_row _ _ 1 _ _ (0, 0) hy, cell_of_row _ _ 2 _ _ (0, 0) hy, cell_of_row _ _ 3 _ _ (0, 0) hy, cell_of_row _ _ 4 _ _ (0, 0) hy, cell_of_row _ _ 5 _ _ (0, 0) hy, cell_of_row _ _ 6 _ _ (0, 0) hy, cell_of_row _ _ 7 _ _ (0, 0) hy, cell_of_row _ _ 8 _ _ (0, 0) hy, cell_of_row _ _ 9 _ _ (0, 0) hy⟩)
      have hss : (s.toList != s.toList) = false := by unfold bne; rw [beq_self_eq_true]; rfl
      go_upto_region 8 with fail
      cases g0 with
      | false =>
        have hse : s = ⟨#[]⟩ := by rw [HS0.out, HPC.out]; rfl
        have hs1 : s.toList = [] := by rw [hse, ByteArray.toList_eq]
        have hs2 : s.toList.isEmpty = true := by rw [hs1]; rfl
        clear hse
        refine LooseD.region_loose (fun w9 => Below w4.heap.size w4 w9) _ _ (by kernel_rfl) (by kernel_rfl)
          (LooseD.waits (D := [[], [], [], [], [], [], [], [], [], [], []]) (by kernel_rfl))
          (LooseD.stays (ts := [none, some (.is (.bool false)), none, some (.is (.bool false)), none, none, none, none, some (.is (.string s)), none, none]) (fun w w' h b => h.trans (b.mono h.size)) (.none (.is (.none (.is (.none (.none (.none (.none (.is (.none (.none .nil))))))))))))
          (Gn.below_drew (Below.refl _ _)) ?_
        refine LooseD.reads (.agg #[.int .i64 kind, .string who, .string nm, .string oth, .string txt, .slice A5 n c5, .int .i64 n0, .int .i64 n1, .int .i64 n2, .int .i64 n3]) rfl rfl ?_ ?_
        · intro w9 hw
          obtain ⟨y0, y1, y2, y3, y4, y5, y6, y7, y8, y9, z0, z1, z2, z3, z4, z5, z6, z7, z8, z9⟩ := HCE.out w9 hw
          clear hw
          go_simp
        try simp only [Act.put, List.setIfInBounds_toArray, List.set_cons_zero, List.set_cons_succ]
        refine LooseD.gives (.bool false) 11 #[.agg #[.int .i64 kind, .string who, .string nm, .string oth, .string txt, .slice A5 n c5, .int .i64 n0, .int .i64 n1, .int .i64 n2, .int .i64 n3]] rfl rfl ?_ (fun w9 hw hH => HGD.out w9 _ _ (Strs.under HB4.out hw)) ?_
        · intro w9 hw
          clear hw
          go_simp
        try simp only [Act.put, List.setIfInBounds_toArray, List.set_cons_zero, List.set_cons_succ]
        refine LooseD.reads (.agg #[.int .i64 kind, .string who, .string nm, .string oth, .string txt, .slice a n cap, .int .i64 n0, .int .i64 n1, .int .i64 n2, .int .i64 n3]) rfl rfl ?_ ?_
        · intro w9 hw
          obtain ⟨y0, y1, y2, y3, y4, y5, y6, y7, y8, y9, z0, z1, z2, z3, z4, z5, z6, z7, z8, z9⟩ := HCE.out w9 hw
          clear hw
          go_simp
        try simp only [Act.put, List.setIfInBounds_toArray, List.set_cons_zero, List.set_cons_succ]
        refine LooseD.gives (.bool false) 12 #[.agg #[.int .i64 kind, .string who, .string nm, .string oth, .string txt, .slice a n cap, .int .i64 n0, .int .i64 n1, .int .i64 n2, .int .i64 n3]] rfl rfl ?_ (fun w9 hw hH => HRG.out w9 _ _ (Strs.under HA4.out hw)) ?_
        · intro w9 hw
          clear hw
          go_simp
        try simp only [Act.put, List.setIfInBounds_toArray, List.set_cons_zero, List.set_cons_succ]
        refine LooseD.reads (.bool false) rfl rfl ?_ ?_
        · intro w9 hw
          clear hw
          go_simp
        try simp only [Act.put, List.setIfInBounds_toArray, List.set_cons_zero, List.set_cons_succ]
        refine LooseD.reads (.bool false) rfl rfl ?_ ?_
        · intro w9 hw
          clear hw
          go_simp
        try simp only [Act.put, List.setIfInBounds_toArray, List.set_cons_zero, List.set_cons_succ]
        refine LooseD.reads (.string s) rfl rfl ?_ ?_
        · intro w9 hw
          clear hw
          go_simp
        try simp only [Act.put, List.setIfInBounds_toArray, List.set_cons_zero, List.set_cons_succ]
        refine LooseD.reads (.agg #[.int .i64 kind, .string who, .string nm, .string oth, .string txt, .slice a n cap, .int .i64 n0, .int .i64 n1, .int .i64 n2, .int .i64 n3]) rfl rfl ?_ ?_
        · intro w9 hw
          obtain ⟨y0, y1, y2, y3, y4, y5, y6, y7, y8, y9, z0, z1, z2, z3, z4, z5, z6, z7, z8, z9⟩ := HCE.out w9 hw
          clear hw
          go_simp
        try simp only [Act.put, List.setIfInBounds_toArray, List.set_cons_zero, List.set_cons_succ]
        refine LooseD.gives (.string s) 13 #[.agg #[.int .i64 kind, .string who, .string nm, .string oth, .string txt, .slice a n cap, .int .i64 n0, .int .i64 n1, .int .i64 n2, .int .i64 n3]] rfl rfl ?_ (fun w9 hw hH => HRP.out w9 _ _ (Strs.under HA4.out hw)) ?_
        · intro w9 hw
          clear hw
          go_simp
        try simp only [Act.put, List.setIfInBounds_toArray, List.set_cons_zero, List.set_cons_succ]
        refine LooseD.reads (.bool false) rfl rfl ?_ ?_
        · intro w9 hw
          clear hw
          go_simp
        try simp only [Act.put, List.setIfInBounds_toArray, List.set_cons_zero, List.set_cons_succ]
        refine LooseD.reads (.bool false) rfl rfl ?_ ?_
        · intro w9 hw
          clear hw
          go_simp
        try simp only [Act.put, List.setIfInBounds_toArray, List.set_cons_zero, List.set_cons_succ]
        refine LooseD.done ?_
        intro w5 hw5 _
        have HB5 := Lib.hid (HBW.out.trans (hw5.mono HBW.out.size))
        have HX5 := Lib.hid ((hw5.block _ (Gn.heap_lt HXB.out)).trans HXB.out)
        have HA5 := Lib.hid (Strs.under HA4.out hw5)
        clear hw5
        have x0 := cell_of_row _ _ 0 _ _ (0, 0) HX5.out
        have x1 := cell_of_row _ _ 1 _ _ (0, 0) HX5.out
        have x2 := cell_of_row _ _ 2 _ _ (0, 0) HX5.out
        have x3 := cell_of_row _ _ 3 _ _ (0, 0) HX5.out
        have x4 := cell_of_row _ _ 4 _ _ (0, 0) HX5.out
        have x5 := cell_of_row _ _ 5 _ _ (0, 0) HX5.out
        have x6 := cell_of_row _ _ 6 _ _ (0, 0) HX5.out
        have x7 := cell_of_row _ _ 7 _ _ (0, 0) HX5.out
        have x8 := cell_of_row _ _ 8 _ _ (0, 0) HX5.out
        have x9 := cell_of_row _ _ 9 _ _ (0, 0) HX5.out
        go_wp2_with fail
        refine (HRG.out _ _ _ HA5.out).mono ?_
        rintro e w6 ⟨rfl, b6⟩
        have HB6 := Lib.hid (HB5.out.trans (b6.mono HB5.out.size))
        clear b6
        go_wp2
        go_ret
        exact ⟨rfl, HB6.out⟩
      | true =>
        have hq := HBKT.out HGC.out.symm
        have hsb : bs s = qCmd ⟨kind, who, nm, oth, txt, word, n0, n1, n2, n3⟩ := by rw [HS0.out, HPC.out, bs_mkS]; rfl
        rw [← hsb] at hq
        have hne : ¬ bs s = [] := by
          intro h0
          have h1 := (put_get _ _ hq).1
          rw [h0] at hq
          have h3 : (getC []).2 = 3 := by decide +kernel
          have h4 := congrArg Prod.snd hq
          rw [h3] at h4
          have h4 : (3 : Nat) = 0 := h4
          cases h4
        have hs1 : ¬ s.toList = [] := by rw [ByteArray.toList_eq]; exact hne
        have hs2 : s.toList.isEmpty = false := by rw [List.isEmpty_eq_false_iff]; exact hs1
        have hsz : s.size ≤ 9223372036854775807 := by
          have h1 := qPre_len _ ((goodC_iff _).1 HGC.out.symm)
          have h2 := qNums_len [n0, n1, n2, n3] 4
          have h3 : s.size = (bs s).length := rfl
          rw [hsb, qCmd_is, List.length_append] at h3
          dsimp only at h3
          omega
        have HGT := Lib.hid (fun (w : World) => show Calls Try.prog 14 #[.string s] w (GetOut w (⟨kind, who, nm, oth, txt, word, n0, n1, n2, n3⟩, 0)) by rw [← hq]; exact get_any s hsz w)
        clear hq hsb hne hsz
        refine LooseD.region_loose (fun w9 => Below w4.heap.size w4 w9) _ _ (by kernel_rfl) (by kernel_rfl)
          (LooseD.waits (D := [[], [], [], [], [], [], [], [], [], [], []]) (by kernel_rfl))
          (LooseD.stays (ts := [none, some (.is (.bool true)), none, some (.is (.bool true)), none, none, none, none, some (.is (.string s)), none, none]) (fun w w' h b => h.trans (b.mono h.size)) (.none (.is (.none (.is (.none (.none (.none (.none (.is (.none (.none .nil))))))))))))
          (Gn.below_drew (Below.refl _ _)) ?_
        refine LooseD.reads (.agg #[.int .i64 kind, .string who, .string nm, .string oth, .string txt, .slice A5 n c5, .int .i64 n0, .int .i64 n1, .int .i64 n2, .int .i64 n3]) rfl rfl ?_ ?_
        · intro w9 hw
          obtain ⟨y0, y1, y2, y3, y4, y5, y6, y7, y8, y9, z0, z1, z2, z3, z4, z5, z6, z7, z8, z9⟩ := HCE.out w9 hw
          clear hw
          go_simp
        try simp only [Act.put, List.setIfInBounds_toArray, List.set_cons_zero, List.set_cons_succ]
        refine LooseD.gives (.bool true) 11 #[.agg #[.int .i64 kind, .string who, .string nm, .string oth, .string txt, .slice A5 n c5, .int .i64 n0, .int .i64 n1, .int .i64 n2, .int .i64 n3]] rfl rfl ?_ (fun w9 hw hH => HGD.out w9 _ _ (Strs.under HB4.out hw)) ?_
        · intro w9 hw
          clear hw
          go_simp
        try simp only [Act.put, List.setIfInBounds_toArray, List.set_cons_zero, List.set_cons_succ]
        refine LooseD.reads (.agg #[.int .i64 kind, .string who, .string nm, .string oth, .string txt, .slice a n cap, .int .i64 n0, .int .i64 n1, .int .i64 n2, .int .i64 n3]) rfl rfl ?_ ?_
        · intro w9 hw
          obtain ⟨y0, y1, y2, y3, y4, y5, y6, y7, y8, y9, z0, z1, z2, z3, z4, z5, z6, z7, z8, z9⟩ := HCE.out w9 hw
          clear hw
          go_simp
        try simp only [Act.put, List.setIfInBounds_toArray, List.set_cons_zero, List.set_cons_succ]
        refine LooseD.gives (.bool true) 12 #[.agg #[.int .i64 kind, .string who, .string nm, .string oth, .string txt, .slice a n cap, .int .i64 n0, .int .i64 n1, .int .i64 n2, .int .i64 n3]] rfl rfl ?_ (fun w9 hw hH => HRG.out w9 _ _ (Strs.under HA4.out hw)) ?_
        · intro w9 hw
          clear hw
          go_simp
        try simp only [Act.put, List.setIfInBounds_toArray, List.set_cons_zero, List.set_cons_succ]
        refine LooseD.reads (.bool false) rfl rfl ?_ ?_
        · intro w9 hw
          clear hw
          go_simp
        try simp only [Act.put, List.setIfInBounds_toArray, List.set_cons_zero, List.set_cons_succ]
        refine LooseD.reads (.bool false) rfl rfl ?_ ?_
        · intro w9 hw
          clear hw
          go_simp
        try simp only [Act.put, List.setIfInBounds_toArray, List.set_cons_zero, List.set_cons_succ]
        refine LooseD.reads (.string s) rfl rfl ?_ ?_
        · intro w9 hw
          clear hw
          go_simp
        try simp only [Act.put, List.setIfInBounds_toArray, List.set_cons_zero, List.set_cons_succ]
        refine LooseD.reads (.agg #[.int .i64 kind, .string who, .string nm, .string oth, .string txt, .slice a n cap, .int .i64 n0, .int .i64 n1, .int .i64 n2, .int .i64 n3]) rfl rfl ?_ ?_
        · intro w9 hw
          obtain ⟨y0, y1, y2, y3, y4, y5, y6, y7, y8, y9, z0, z1, z2, z3, z4, z5, z6, z7, z8, z9⟩ := HCE.out w9 hw
          clear hw
          go_simp
        try simp only [Act.put, List.setIfInBounds_toArray, List.set_cons_zero, List.set_cons_succ]
        refine LooseD.gives (.string s) 13 #[.agg #[.int .i64 kind, .string who, .string nm, .string oth, .string txt, .slice a n cap, .int .i64 n0, .int .i64 n1, .int .i64 n2, .int .i64 n3]] rfl rfl ?_ (fun w9 hw hH => HRP.out w9 _ _ (Strs.under HA4.out hw)) ?_
        · intro w9 hw
          clear hw
          go_simp
        try simp only [Act.put, List.setIfInBounds_toArray, List.set_cons_zero, List.set_cons_succ]
        refine LooseD.reads (.bool false) rfl rfl ?_ ?_
        · intro w9 hw
          clear hw
          go_simp
        try simp only [Act.put, List.setIfInBounds_toArray, List.set_cons_zero, List.set_cons_succ]
        refine LooseD.reads (.bool false) rfl rfl ?_ ?_
        · intro w9 hw
          clear hw
          go_simp
        try simp only [Act.put, List.setIfInBounds_toArray, List.set_cons_zero, List.set_cons_succ]
        refine LooseD.done ?_
        intro w5 hw5 _
        have HB5 := Lib.hid (HBW.out.trans (hw5.mono HBW.out.size))
        have HX5 := Lib.hid ((hw5.block _ (Gn.heap_lt HXB.out)).trans HXB.out)
        have HA5 := Lib.hid (Strs.under HA4.out hw5)
        clear hw5
        go_wp2_with fail
        refine (HGT.out _).mono ?_
        rintro e w6 ⟨u, rfl, ⟨A6, c6, rfl, hs6⟩, b6⟩
        dsimp only at *
        rw [HN.out] at hs6 ⊢
        obtain ⟨U6, hU6⟩ : ∃ U, U = w6.alloc (.cells #[.int .i64 kind, .string who, .string nm, .string oth, .string txt, .slice A6 n c6, .int .i64 n0, .int .i64 n1, .int .i64 n2, .int .i64 n3] 28) := ⟨_, rfl⟩
        have hbU : Below w6.heap.size w6 U6 := by rw [hU6]; exact (Below.refl _ _).alloc (Nat.le_refl _) _
        have hxU : U6.heap[w6.heap.size]? = some (.cells #[.int .i64 kind, .string who, .string nm, .string oth, .string txt, .slice A6 n c6, .int .i64 n0, .int .i64 n1, .int .i64 n2, .int .i64 n3] 28 (0, 0)) := by rw [hU6]; exact heap_alloc_new _ _
        obtain ⟨q6, hq6⟩ : ∃ g, g = w6.heap.size := ⟨_, rfl⟩
        rw [← hq6] at hxU
        have HB6 := Lib.hid (b6.trans (hbU.mono b6.size))
        have HX6 := Lib.hid ((HB6.out.block _ (Gn.heap_lt HX5.out)).trans HX5.out)
        have HA6 := Lib.hid (Strs.under HA5.out HB6.out)
        have HC6 := Lib.hid (Strs.under hs6 hbU)
        have HW6 := Lib.hid hxU
        have HBE := Lib.hid (HB5.out.trans (HB6.out.mono HB5.out.size))
        have HU6 := Lib.hid hU6
        have HQ6 := Lib.hid hq6
        have HSM := Lib.hid (show Calls Try.prog 15 #[.agg #[.int .i64 kind, .string who, .string nm, .string oth, .string txt, .slice A6 n c6, .int .i64 n0, .int .i64 n1, .int .i64 n2, .int .i64 n3], .agg #[.int .i64 kind, .string who, .string nm, .string oth, .string txt, .slice a n cap, .int .i64 n0, .int .i64 n1, .int .i64 n2, .int .i64 n3]] U6 (Asks true U6) by
          have := same_any ⟨kind, who, nm, oth, txt, word, n0, n1, n2, n3⟩ ⟨kind, who, nm, oth, txt, word, n0, n1, n2, n3⟩ (.agg #[.int .i64 kind, .string who, .string nm, .string oth, .string txt, .slice A6 n c6, .int .i64 n0, .int .i64 n1, .int .i64 n2, .int .i64 n3]) (.agg #[.int .i64 kind, .string who, .string nm, .string oth, .string txt, .slice a n cap, .int .i64 n0, .int .i64 n1, .int .i64 n2, .int .i64 n3]) U6 ⟨A6, c6, by dsimp only; rw [HN.out], by dsimp only; rw [HN.out]; exact HC6.out⟩ ⟨a, cap, by dsimp only; rw [HN.out], by dsimp only; rw [HN.out]; exact HA6.out⟩ (by dsimp only; rw [HN.out]; omega)
          rw [HSAME.out] at this
          exact this)
        clear hs6 b6 hU6 hbU hxU hq6
        go_upto_region 13 with fail
        rw [← HU6.out, ← HQ6.out]
        have x0 := cell_of_row _ _ 0 _ _ (0, 0) HW6.out
        have x1 := cell_of_row _ _ 1 _ _ (0, 0) HW6.out
        have x2 := cell_of_row _ _ 2 _ _ (0, 0) HW6.out
        have x3 := cell_of_row _ _ 3 _ _ (0, 0) HW6.out
        have x4 := cell_of_row _ _ 4 _ _ (0, 0) HW6.out
        have x5 := cell_of_row _ _ 5 _ _ (0, 0) HW6.out
        have x6 := cell_of_row _ _ 6 _ _ (0, 0) HW6.out
        have x7 := cell_of_row _ _ 7 _ _ (0, 0) HW6.out
        have x8 := cell_of_row _ _ 8 _ _ (0, 0) HW6.out
        have x9 := cell_of_row _ _ 9 _ _ (0, 0) HW6.out
        have y0 := cell_of_row _ _ 0 _ _ (0, 0) HX6.out
        have y1 := cell_of_row _ _ 1 _ _ (0, 0) HX6.out
        have y2 := cell_of_row _ _ 2 _ _ (0, 0) HX6.out
        have y3 := cell_of_row _ _ 3 _ _ (0, 0) HX6.out
        have y4 := cell_of_row _ _ 4 _ _ (0, 0) HX6.out
        have y5 := cell_of_row _ _ 5 _ _ (0, 0) HX6.out
        have y6 := cell_of_row _ _ 6 _ _ (0, 0) HX6.out
        have y7 := cell_of_row _ _ 7 _ _ (0, 0) HX6.out
        have y8 := cell_of_row _ _ 8 _ _ (0, 0) HX6.out
        have y9 := cell_of_row _ _ 9 _ _ (0, 0) HX6.out
        go_wp2_with fail
        refine HSM.out.mono ?_
        rintro e w7 ⟨rfl, b7⟩
        have HB7 := Lib.hid (HBE.out.trans (b7.mono HBE.out.size))
        clear b7
        go_wp2
        go_ret
        exact ⟨rfl, HB7.out⟩
end Go.Proofs.Ytpkjcaeijlgclaa.Cm
