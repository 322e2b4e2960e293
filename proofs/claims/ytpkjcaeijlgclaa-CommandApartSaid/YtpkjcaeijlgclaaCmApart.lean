/-
  Layer 21: the walk of CommandApart.
-/
import Derived.Test.YtpkjcaeijlgclaaCmO
import Derived.Test.YtpkjcaeijlgclaaLooseD
namespace Go.Proofs.Ytpkjcaeijlgclaa.Cm
open Go.RowKit
open Oct (pb bs Strs)
open Lx (goodB)
open Gn (Asks)
set_option maxRecDepth 100000
set_option linter.unusedSimpArgs false
set_option linter.unusedVariables false
set_option maxHeartbeats 16000000 in
theorem apart_walk (c d : Cmd) (v u : Value) (w : World) (hv : CmdAt w c v) (hu : CmdAt w d u) (hf : Short c) (hg : Short d) :
    Calls Try.prog 7 #[v, u] w fun e w' => e = .returned (.bool true) ∧ Below w.heap.size w w' := by
  obtain ⟨g0, hg0⟩ : ∃ g, g = goodC c := ⟨_, rfl⟩
  obtain ⟨g1, hg1⟩ : ∃ g, g = goodC d := ⟨_, rfl⟩
  obtain ⟨l0, hl0⟩ : ∃ g, g = largeC c := ⟨_, rfl⟩
  obtain ⟨l1, hl1⟩ : ∃ g, g = largeC d := ⟨_, rfl⟩
  have HLG := Lib.hid (fun (w' : World) (b : Below w.heap.size w w') => show Calls Try.prog 9 #[v] w' (Asks l0 w') by rw [hl0]; exact large_any c v w' (hv.under b) hf.word)
  have HLH := Lib.hid (fun (w' : World) (b : Below w.heap.size w w') => show Calls Try.prog 9 #[u] w' (Asks l1 w') by rw [hl1]; exact large_any d u w' (hu.under b) hg.word)
  have HLC := Lib.hid (show l0 = false → c.word.length ≤ 80 from fun h => by
    rw [h] at hl0
    unfold largeC at hl0
    have := hl0.symm
    simp only [Bool.or_eq_false_iff, decide_eq_false_iff_not] at this
    omega)
  have HLD := Lib.hid (show l1 = false → d.word.length ≤ 80 from fun h => by
    rw [h] at hl1
    unfold largeC at hl1
    have := hl1.symm
    simp only [Bool.or_eq_false_iff, decide_eq_false_iff_not] at this
    omega)
  obtain ⟨t0, ht0⟩ : ∃ t, t = sameC c d := ⟨_, rfl⟩
  have HEQ := Lib.hid (show g0 = true → g1 = true → (mkS (putC c) = mkS (putC d) ↔ t0 = true) from fun h1 h2 => by
    rw [h1] at hg0
    rw [h2] at hg1
    rw [ht0, sameC_iff]
    unfold putC
    rw [if_pos hg0.symm, if_pos hg1.symm]
    refine ⟨fun h => put_inj c d hg0.symm hg1.symm ?_, fun h => by rw [h]⟩
    have := congrArg bs h
    rwa [bs_mkS, bs_mkS] at this)
  have HSM := Lib.hid (fun (w : World) (v u : Value) (hv : CmdAt w c v) (hu : CmdAt w d u) => show Calls Try.prog 15 #[v, u] w (Asks t0 w) by rw [ht0]; exact same_any c d v u w hv hu hf.word)
  have HGC := Lib.hid hg0
  have HGD := Lib.hid hg1
  obtain ⟨a, cap, rfl, hs⟩ := hv
  obtain ⟨a2, cap2, rfl, hk⟩ := hu
  obtain ⟨kind, who, nm, oth, txt, word, n0, n1, n2, n3⟩ := c
  obtain ⟨kind2, who2, nm2, oth2, txt2, word2, n02, n12, n22, n32⟩ := d
  obtain ⟨h1, h2, h3, h4, h5⟩ := hf
  obtain ⟨k1, k2, k3, k4, k5⟩ := hg
  dsimp only at *
  obtain ⟨n, hn⟩ : ∃ n, n = word.length := ⟨_, rfl⟩
  obtain ⟨nn2, hm⟩ : ∃ n, n = word2.length := ⟨_, rfl⟩
  rw [← hn] at hs h5 HLG HLC ⊢
  rw [← hm] at hk k5 HLH HLD ⊢
  have HN := Lib.hid hn.symm
  have HM := Lib.hid hm.symm
  have HGA := Lib.hid (fun (w : World) (A : Option Addr) (k : Nat) (h : Strs w A n word) => show Calls Try.prog 11 #[.agg #[.int .i64 kind, .string who, .string nm, .string oth, .string txt, .slice A n k, .int .i64 n0, .int .i64 n1, .int .i64 n2, .int .i64 n3]] w (Asks g0 w) by rw [HGC.out]; exact good_any kind who nm oth txt word n0 n1 n2 n3 A n k w HN.out h h1 h2 h3 h4 h5)
  have HGB := Lib.hid (fun (w : World) (A : Option Addr) (k : Nat) (h : Strs w A nn2 word2) => show Calls Try.prog 11 #[.agg #[.int .i64 kind2, .string who2, .string nm2, .string oth2, .string txt2, .slice A nn2 k, .int .i64 n02, .int .i64 n12, .int .i64 n22, .int .i64 n32]] w (Asks g1 w) by rw [HGD.out]; exact good_any kind2 who2 nm2 oth2 txt2 word2 n02 n12 n22 n32 A nn2 k w HM.out h k1 k2 k3 k4 k5)
  obtain ⟨s, hs0⟩ : ∃ s, s = mkS (putC ⟨kind, who, nm, oth, txt, word, n0, n1, n2, n3⟩) := ⟨_, rfl⟩
  obtain ⟨s2, hs2⟩ : ∃ s, s = mkS (putC ⟨kind2, who2, nm2, oth2, txt2, word2, n02, n12, n22, n32⟩) := ⟨_, rfl⟩
  rw [← hs0, ← hs2] at HEQ
  have HPA := Lib.hid (fun (w : World) (A : Option Addr) (k : Nat) (h : Strs w A n word) => show Calls Try.prog 10 #[.agg #[.int .i64 kind, .string who, .string nm, .string oth, .string txt, .slice A n k, .int .i64 n0, .int .i64 n1, .int .i64 n2, .int .i64 n3]] w fun e w' => e = .returned (.string s) ∧ Below w.heap.size w w' by rw [hs0]; exact put_any kind who nm oth txt word n0 n1 n2 n3 A n k w HN.out h h1 h2 h3 h4 h5)
  have HPB := Lib.hid (fun (w : World) (A : Option Addr) (k : Nat) (h : Strs w A nn2 word2) => show Calls Try.prog 10 #[.agg #[.int .i64 kind2, .string who2, .string nm2, .string oth2, .string txt2, .slice A nn2 k, .int .i64 n02, .int .i64 n12, .int .i64 n22, .int .i64 n32]] w fun e w' => e = .returned (.string s2) ∧ Below w.heap.size w w' by rw [hs2]; exact put_any kind2 who2 nm2 oth2 txt2 word2 n02 n12 n22 n32 A nn2 k w HM.out h k1 k2 k3 k4 k5)
  obtain ⟨V0, hV⟩ : ∃ V, V = (w.alloc (.cells #[.int .i64 kind, .string who, .string nm, .string oth, .string txt, .slice a n cap, .int .i64 n0, .int .i64 n1, .int .i64 n2, .int .i64 n3] 25)).alloc (.cells #[.int .i64 kind2, .string who2, .string nm2, .string oth2, .string txt2, .slice a2 nn2 cap2, .int .i64 n02, .int .i64 n12, .int .i64 n22, .int .i64 n32] 25) := ⟨_, rfl⟩
  have hb : Below w.heap.size w V0 := by rw [hV]; exact ((Below.refl _ w).alloc (Nat.le_refl _) _).alloc (by simp) _
  have hx : V0.heap[w.heap.size]? = some (.cells #[.int .i64 kind, .string who, .string nm, .string oth, .string txt, .slice a n cap, .int .i64 n0, .int .i64 n1, .int .i64 n2, .int .i64 n3] 25 (0, 0)) := by rw [hV]; exact (heap_alloc_old _ _ (by simp)).trans (heap_alloc_new w _)
  have hy : V0.heap[w.heap.size + 1]? = some (.cells #[.int .i64 kind2, .string who2, .string nm2, .string oth2, .string txt2, .slice a2 nn2 cap2, .int .i64 n02, .int .i64 n12, .int .i64 n22, .int .i64 n32] 25 (0, 0)) := by
    rw [hV]; have := heap_alloc_new (w.alloc (.cells #[.int .i64 kind, .string who, .string nm, .string oth, .string txt, .slice a n cap, .int .i64 n0, .int .i64 n1, .int .i64 n2, .int .i64 n3] 25)) (.cells #[.int .i64 kind2, .string who2, .string nm2, .string oth2, .string txt2, .slice a2 nn2 cap2, .int .i64 n02, .int .i64 n12, .int .i64 n22, .int .i64 n32] 25); simpa using this
  obtain ⟨rb2, hrb2⟩ : ∃ r, r = w.heap.size + 1 := ⟨_, rfl⟩
  rw [← hrb2] at hy
  have HRR2 := Lib.hid hrb2
  obtain ⟨rb, hrb⟩ : ∃ r, r = w.heap.size := ⟨_, rfl⟩
  rw [← hrb] at hx
  have HX0 := Lib.hid hx
  have HY0 := Lib.hid hy
  have HB0 := Lib.hid hb
  have HV0 := Lib.hid hV
  have HRR := Lib.hid hrb
  have HWW := Lib.hid hs
  have HWK := Lib.hid hk
  clear hg0 hg1 hl0 hl1 ht0 hs0 hs2 hn hm hV hb hx hy hrb hrb2 hs hk
  cases l0 with
  | true =>
    go_enter Try.func7, Try.ntmps7
    go_upto_region 1 with fail
    rw [← HV0.out, ← HRR2.out, ← HRR.out]
    go_wp2_with fail
    refine (speaks_any _).mono ?_
    rintro e w1 ⟨rfl, b1⟩
    have HB1 := Lib.hid (HB0.out.trans (b1.mono HB0.out.size))
    have HX1 := Lib.hid ((b1.block _ (Gn.heap_lt HX0.out)).trans HX0.out)
    have HY1 := Lib.hid ((b1.block _ (Gn.heap_lt HY0.out)).trans HY0.out)
    clear b1
    have x0 := cell_of_row _ _ 0 _ _ (0, 0) HX1.out
    have x1 := cell_of_row _ _ 1 _ _ (0, 0) HX1.out
    have x2 := cell_of_row _ _ 2 _ _ (0, 0) HX1.out
    have x3 := cell_of_row _ _ 3 _ _ (0, 0) HX1.out
    have x4 := cell_of_row _ _ 4 _ _ (0, 0) HX1.out
    have x5 := cell_of_row _ _ 5 _ _ (0, 0) HX1.out
    have x6 := cell_of_row _ _ 6 _ _ (0, 0) HX1.out
    have x7 := cell_of_row _ _ 7 _ _ (0, 0) HX1.out
    have x8 := cell_of_row _ _ 8 _ _ (0, 0) HX1.out
    have x9 := cell_of_row _ _ 9 _ _ (0, 0) HX1.out
    go_wp2_with fail
    refine (HLG.out _ HB1.out).mono ?_
    rintro e w2 ⟨rfl, b2⟩
    have HB2 := Lib.hid (HB1.out.trans (b2.mono HB1.out.size))
    have HX2 := Lib.hid ((b2.block _ (Gn.heap_lt HX1.out)).trans HX1.out)
    have HY2 := Lib.hid ((b2.block _ (Gn.heap_lt HY1.out)).trans HY1.out)
    clear b2 x0 x1 x2 x3 x4 x5 x6 x7 x8 x9
    go_wp2
    go_ret
    exact ⟨rfl, HB2.out⟩
  | false =>
    have hn80 : n ≤ 80 := HLC.out rfl
    go_enter Try.func7, Try.ntmps7
    go_upto_region 1 with fail
    rw [← HV0.out, ← HRR2.out, ← HRR.out]
    go_wp2_with fail
    refine (speaks_any _).mono ?_
    rintro e w1 ⟨rfl, b1⟩
    have HB1 := Lib.hid (HB0.out.trans (b1.mono HB0.out.size))
    have HX1 := Lib.hid ((b1.block _ (Gn.heap_lt HX0.out)).trans HX0.out)
    have HY1 := Lib.hid ((b1.block _ (Gn.heap_lt HY0.out)).trans HY0.out)
    clear b1
    have x0 := cell_of_row _ _ 0 _ _ (0, 0) HX1.out
    have x1 := cell_of_row _ _ 1 _ _ (0, 0) HX1.out
    have x2 := cell_of_row _ _ 2 _ _ (0, 0) HX1.out
    have x3 := cell_of_row _ _ 3 _ _ (0, 0) HX1.out
    have x4 := cell_of_row _ _ 4 _ _ (0, 0) HX1.out
    have x5 := cell_of_row _ _ 5 _ _ (0, 0) HX1.out
    have x6 := cell_of_row _ _ 6 _ _ (0, 0) HX1.out
    have x7 := cell_of_row _ _ 7 _ _ (0, 0) HX1.out
    have x8 := cell_of_row _ _ 8 _ _ (0, 0) HX1.out
    have x9 := cell_of_row _ _ 9 _ _ (0, 0) HX1.out
    go_wp2_with fail
    refine (HLG.out _ HB1.out).mono ?_
    rintro e w2 ⟨rfl, b2⟩
    have HB2 := Lib.hid (HB1.out.trans (b2.mono HB1.out.size))
    have HX2 := Lib.hid ((b2.block _ (Gn.heap_lt HX1.out)).trans HX1.out)
    have HY2 := Lib.hid ((b2.block _ (Gn.heap_lt HY1.out)).trans HY1.out)
    clear b2 x0 x1 x2 x3 x4 x5 x6 x7 x8 x9
    have y0 := cell_of_row _ _ 0 _ _ (0, 0) HY2.out
    have y1 := cell_of_row _ _ 1 _ _ (0, 0) HY2.out
    have y2 := cell_of_row _ _ 2 _ _ (0, 0) HY2.out
    have y3 := cell_of_row _ _ 3 _ _ (0, 0) HY2.out
    have y4 := cell_of_row _ _ 4 _ _ (0, 0) HY2.out
    have y5 := cell_of_row _ _ 5 _ _ (0, 0) HY2.out
    have y6 := cell_of_row _ _ 6 _ _ (0, 0) HY2.out
    have y7 := cell_of_row _ _ 7 _ _ (0, 0) HY2.out
    have y8 := cell_of_row _ _ 8 _ _ (0, 0) HY2.out
    have y9 := cell_of_row _ _ 9 _ _ (0, 0) HY2.out
    go_wp2_with fail
    refine (HLH.out _ HB2.out).mono ?_
    rintro e V ⟨rfl, b3⟩
    have HBV := Lib.hid (HB2.out.trans (b3.mono HB2.out.size))
    have HRB := Lib.hid ((b3.block _ (Gn.heap_lt HX2.out)).trans HX2.out)
    have HRK := Lib.hid ((b3.block _ (Gn.heap_lt HY2.out)).trans HY2.out)
    have HWD := Lib.hid (Strs.under HWW.out HBV.out)
    have HWE := Lib.hid (Strs.under HWK.out HBV.out)
    clear b3 y0 y1 y2 y3 y4 y5 y6 y7 y8 y9
    cases l1 with
    | true =>
      go_wp2
      go_ret
      exact ⟨rfl, HBV.out⟩
    | false =>
      have hn802 : nn2 ≤ 80 := HLD.out rfl
      go_upto_region 5 with fail
      have HSS := Lib.hid (fun (w' : World) (b : Below V.heap.size V w') => show (fun w' : World => w'.cell? ⟨rb, 0, none⟩ = some (.int .i64 kind) ∧ w'.cell? ⟨rb, 1, none⟩ = some (.string who) ∧ w'.cell? ⟨rb, 2, none⟩ = some (.string nm) ∧ w'.cell? ⟨rb, 3, none⟩ = some (.string oth) ∧ w'.cell? ⟨rb, 4, none⟩ = some (.string txt) ∧ w'.cell? ⟨rb, 5, none⟩ = some (.slice a n cap) ∧ w'.cell? ⟨rb, 6, none⟩ = some (.int .i64 n0) ∧ w'.cell? ⟨rb, 7, none⟩ = some (.int .i64 n1) ∧ w'.cell? ⟨rb, 8, none⟩ = some (.int .i64 n2) ∧ w'.cell? ⟨rb, 9, none⟩ = some (.int .i64 n3)) w' from by
        have hx := (b.block _ (Gn.heap_lt HRB.out)).trans HRB.out
        exact ⟨cell_of_row _ _ 0 _ _ (0, 0) hx, cell_of_row _ _ 1 _ _ (0, 0) hx, cell_of_row _ _ 2 _ _ (0, 0) hx, cell_of_row _ _ 3 _ _ (0, 0) hx, cell_of_row _ _ 4 _ _ (0, 0) hx, cell_of_row _ _ 5 _ _ (0, 0) hx, cell_of_row _ _ 6 _ _ (0, 0) hx, cell_of_row _ _ 7 _ _ (0, 0) hx, cell_of_row _ _ 8 _ _ (0, 0) hx, cell_of_row _ _ 9 _ _ (0, 0) hx⟩)
      go_cut [5] from 16 to 32 (fun sa wx => ∃ (q : Nat) (A5 : Option Addr) (c5 : Nat), sa = .pointer (some ⟨q, 0, none⟩) ∧ Dup V wx q A5 c5 n kind who nm oth txt word n0 n1 n2 n3)
      case first =>
        refine wp_region_noPanic ?_
        refine wp_region_held_drew (S := (fun w' : World => w'.cell? ⟨rb, 0, none⟩ = some (.int .i64 kind) ∧ w'.cell? ⟨rb, 1, none⟩ = some (.string who) ∧ w'.cell? ⟨rb, 2, none⟩ = some (.string nm) ∧ w'.cell? ⟨rb, 3, none⟩ = some (.string oth) ∧ w'.cell? ⟨rb, 4, none⟩ = some (.string txt) ∧ w'.cell? ⟨rb, 5, none⟩ = some (.slice a n cap) ∧ w'.cell? ⟨rb, 6, none⟩ = some (.int .i64 n0) ∧ w'.cell? ⟨rb, 7, none⟩ = some (.int .i64 n1) ∧ w'.cell? ⟨rb, 8, none⟩ = some (.int .i64 n2) ∧ w'.cell? ⟨rb, 9, none⟩ = some (.int .i64 n3))) (by kernel_rfl) ?_ (fun hHeld => ?_)
        · exact HSS.out _ (Gn.below_drew (Below.refl _ _))
        conv in Array.replicate _ false => change #[false, false, false, false, false, false, false, false, false, false, false, false, false, false, false, false, false, false, false]
        refine wpAnyH_take (i := 0) (v := ?_) rfl (by kernel_rfl) (by kernel_rfl) (by kernel_rfl) (fun _ _ _ h => h) (Or.inl ⟨by rfl, ?_⟩) (by assumption) ?_
        rotate_left
        · intro w hSw
          try dsimp only at hSw
          go_simp
          try with_reducible rfl
        try simp only [Act.put, List.getElem_toArray, List.getElem_cons_zero, List.getElem_cons_succ, List.setIfInBounds_toArray, List.set_cons_zero, List.set_cons_succ]
        refine wpAnyH_take (i := 1) (v := ?_) rfl (by kernel_rfl) (by kernel_rfl) (by kernel_rfl) (fun _ _ _ h => h) (Or.inl ⟨by rfl, ?_⟩) (by assumption) ?_
        rotate_left
        · intro w hSw
          try dsimp only at hSw
          go_simp
          try with_reducible rfl
        try simp only [Act.put, List.getElem_toArray, List.getElem_cons_zero, List.getElem_cons_succ, List.setIfInBounds_toArray, List.set_cons_zero, List.set_cons_succ]
        refine wpAnyH_take (i := 2) (v := ?_) rfl (by kernel_rfl) (by kernel_rfl) (by kernel_rfl) (fun _ _ _ h => h) (Or.inl ⟨by rfl, ?_⟩) (by assumption) ?_
        rotate_left
        · intro w hSw
          try dsimp only at hSw
          go_simp
          try with_reducible rfl
        try simp only [Act.put, List.getElem_toArray, List.getElem_cons_zero, List.getElem_cons_succ, List.setIfInBounds_toArray, List.set_cons_zero, List.set_cons_succ]
        refine wpAnyH_take (i := 3) (v := ?_) rfl (by kernel_rfl) (by kernel_rfl) (by kernel_rfl) (fun _ _ _ h => h) (Or.inl ⟨by rfl, ?_⟩) (by assumption) ?_
        rotate_left
        · intro w hSw
          try dsimp only at hSw
          go_simp
          try with_reducible rfl
        try simp only [Act.put, List.getElem_toArray, List.getElem_cons_zero, List.getElem_cons_succ, List.setIfInBounds_toArray, List.set_cons_zero, List.set_cons_succ]
        refine wpAnyH_take (i := 4) (v := ?_) rfl (by kernel_rfl) (by kernel_rfl) (by kernel_rfl) (fun _ _ _ h => h) (Or.inl ⟨by rfl, ?_⟩) (by assumption) ?_
        rotate_left
        · intro w hSw
          try dsimp only at hSw
          go_simp
          try with_reducible rfl
        try simp only [Act.put, List.getElem_toArray, List.getElem_cons_zero, List.getElem_cons_succ, List.setIfInBounds_toArray, List.set_cons_zero, List.set_cons_succ]
        refine wpAnyH_take (i := 5) (v := ?_) rfl (by kernel_rfl) (by kernel_rfl) (by kernel_rfl) (fun _ _ _ h => h) (Or.inl ⟨by rfl, ?_⟩) (by assumption) ?_
        rotate_left
        · intro w hSw
          try dsimp only at hSw
          go_simp
          try with_reducible rfl
        try simp only [Act.put, List.getElem_toArray, List.getElem_cons_zero, List.getElem_cons_succ, List.setIfInBounds_toArray, List.set_cons_zero, List.set_cons_succ]
        refine wpAnyH_take (i := 6) (v := ?_) rfl (by kernel_rfl) (by kernel_rfl) (by kernel_rfl) (fun _ _ _ h => h) (Or.inl ⟨by rfl, ?_⟩) (by assumption) ?_
        rotate_left
        · intro w hSw
          try dsimp only at hSw
          go_simp
          try with_reducible rfl
        try simp only [Act.put, List.getElem_toArray, List.getElem_cons_zero, List.getElem_cons_succ, List.setIfInBounds_toArray, List.set_cons_zero, List.set_cons_succ]
        refine wpAnyH_take (i := 7) (v := ?_) rfl (by kernel_rfl) (by kernel_rfl) (by kernel_rfl) (fun _ _ _ h => h) (Or.inl ⟨by rfl, ?_⟩) (by assumption) ?_
        rotate_left
        · intro w hSw
          try dsimp only at hSw
          go_simp
          try with_reducible rfl
        try simp only [Act.put, List.getElem_toArray, List.getElem_cons_zero, List.getElem_cons_succ, List.setIfInBounds_toArray, List.set_cons_zero, List.set_cons_succ]
        refine wpAnyH_take (i := 8) (v := ?_) rfl (by kernel_rfl) (by kernel_rfl) (by kernel_rfl) (fun _ _ _ h => h) (Or.inl ⟨by rfl, ?_⟩) (by assumption) ?_
        rotate_left
        · intro w hSw
          try dsimp only at hSw
          go_simp
          try with_reducible rfl
        try simp only [Act.put, List.getElem_toArray, List.getElem_cons_zero, List.getElem_cons_succ, List.setIfInBounds_toArray, List.set_cons_zero, List.set_cons_succ]
        refine wpAnyH_take (i := 9) (v := ?_) rfl (by kernel_rfl) (by kernel_rfl) (by kernel_rfl) (fun _ _ _ h => h) (Or.inl ⟨by rfl, ?_⟩) (by assumption) ?_
        rotate_left
        · intro w hSw
          try dsimp only at hSw
          go_simp
          try with_reducible rfl
        try simp only [Act.put, List.getElem_toArray, List.getElem_cons_zero, List.getElem_cons_succ, List.setIfInBounds_toArray, List.set_cons_zero, List.set_cons_succ]
        refine wpAnyH_take (i := 11) (v := ?_) rfl (by kernel_rfl) (by kernel_rfl) (by kernel_rfl) (fun _ _ _ h => h) (Or.inl ⟨by rfl, ?_⟩) (by assumption) ?_
        rotate_left
        · intro w hSw
          try dsimp only at hSw
          go_simp
          try with_reducible rfl
        try simp only [Act.put, List.getElem_toArray, List.getElem_cons_zero, List.getElem_cons_succ, List.setIfInBounds_toArray, List.set_cons_zero, List.set_cons_succ]
        refine wpAnyH_take (i := 12) (v := ?_) rfl (by kernel_rfl) (by kernel_rfl) (by kernel_rfl) (fun _ _ _ h => h) (Or.inl ⟨by rfl, ?_⟩) (by assumption) ?_
        rotate_left
        · intro w hSw
          try dsimp only at hSw
          go_simp
          try with_reducible rfl
        try simp only [Act.put, List.getElem_toArray, List.getElem_cons_zero, List.getElem_cons_succ, List.setIfInBounds_toArray, List.set_cons_zero, List.set_cons_succ]
        refine wpAnyH_take (i := 14) (v := ?_) rfl (by kernel_rfl) (by kernel_rfl) (by kernel_rfl) (fun _ _ _ h => h) (Or.inl ⟨by rfl, ?_⟩) (by assumption) ?_
        rotate_left
        · intro w hSw
          try dsimp only at hSw
          go_simp
          try with_reducible rfl
        try simp only [Act.put, List.getElem_toArray, List.getElem_cons_zero, List.getElem_cons_succ, List.setIfInBounds_toArray, List.set_cons_zero, List.set_cons_succ]
        refine wpAnyH_take (i := 15) (v := ?_) rfl (by kernel_rfl) (by kernel_rfl) (by kernel_rfl) (fun _ _ _ h => h) (Or.inl ⟨by rfl, ?_⟩) (by assumption) ?_
        rotate_left
        · intro w hSw
          try dsimp only at hSw
          go_simp
          try with_reducible rfl
        try simp only [Act.put, List.getElem_toArray, List.getElem_cons_zero, List.getElem_cons_succ, List.setIfInBounds_toArray, List.set_cons_zero, List.set_cons_succ]
        refine wpAnyH_ready (rs := [10, 17]) (by kernel_rfl) (by simp) ?_
        refine AllReadyH.cons rfl (fun K hK => ?_) ?_
        · go_simp
          have HBE := Lib.hid ((Gn.below_drew (Below.refl V.heap.size V)).alloc (Nat.le_refl _) (.cells #[] 9))
          have HOE := Lib.hid (own_empty (base := V.heap.size) (heap_alloc_new V.drew (.cells #[] 9)) (Nat.le_refl _))
          skip
          refine hK.out _ _ (HSS.out _ HBE.out) (fun hHeld => ?_)
          clear hK K
          try simp only [Act.put, List.getElem_toArray, List.getElem_cons_zero, List.getElem_cons_succ, List.setIfInBounds_toArray, List.set_cons_zero, List.set_cons_succ]
          refine wpAnyH_ready (rs := [13, 17]) (by kernel_rfl) (by simp) ?_
          refine AllReadyH.cons rfl (fun K hK => ?_) ?_
          · refine step_append_word _ rfl _ _ rfl V.heap.size _ 0 [] rfl HOE.out a n cap word rfl (Strs.under HWD.out HBE.out) (by omega) HBE.out.size ?_
            intro v5 w5 ho5 hg5
            rw [Nat.zero_add, List.nil_append] at ho5
            obtain ⟨A5, c5, rfl⟩ := Gn.slice_of ho5
            have HDS := Lib.hid (show DupS V w5 (.slice A5 n c5) n word from ⟨grown_below hg5 HBE.out (fun k hk => Gn.own_block HOE.out k hk), ho5⟩)
            clear ho5 hg5
            refine hK.out _ _ (HSS.out _ HDS.out.bel) (fun hHeld => ?_)
            clear hK K
            try simp only [Act.put, List.getElem_toArray, List.getElem_cons_zero, List.getElem_cons_succ, List.setIfInBounds_toArray, List.set_cons_zero, List.set_cons_succ]
            refine wpAnyH_take (i := 16) (v := ?_) rfl (by kernel_rfl) (by kernel_rfl) (by kernel_rfl) (fun _ _ _ h => h) (Or.inl ⟨by rfl, ?_⟩) (by assumption) ?_
            rotate_left
            · intro w hSw
              try dsimp only at hSw
              go_simp
              try with_reducible rfl
            try simp only [Act.put, List.getElem_toArray, List.getElem_cons_zero, List.getElem_cons_succ, List.setIfInBounds_toArray, List.set_cons_zero, List.set_cons_succ]
            refine wpAnyH_ready (rs := [17]) (by kernel_rfl) (by simp) ?_
            refine AllReadyH.cons rfl (fun K hK => ?_) AllReadyH.nil
            go_simp
            refine hK.out _ _ (HSS.out _ (HDS.out.bel.trans (((Below.refl _ _).alloc (Nat.le_refl _) _).mono HDS.out.bel.size))) (fun hHeld => ?_)
            clear hK K
            try simp only [Act.put, List.getElem_toArray, List.getElem_cons_zero, List.getElem_cons_succ, List.setIfInBounds_toArray, List.set_cons_zero, List.set_cons_succ]
            refine wpAnyH_ready (rs := [18]) (by kernel_rfl) (by simp) ?_
            refine AllReadyH.cons rfl (fun K hK => ?_) AllReadyH.nil
            go_simp
            have HDD := Lib.hid (HDS.out.late (kind := kind) (who := who) (nm := nm) (oth := oth) (txt := txt) (n0 := n0) (n1 := n1) (n2 := n2) (n3 := n3))
            refine hK.out _ _ (HSS.out _ HDD.out.1) (fun hHeld => ?_)
            clear hK K
            try simp only [Act.put, List.getElem_toArray, List.getElem_cons_zero, List.getElem_cons_succ, List.setIfInBounds_toArray, List.set_cons_zero, List.set_cons_succ]
            refine wpAnyH_done (by kernel_rfl) ?_ _
            refine NoPanic.normal ?_
            go_wp2_with fail
            go_meet
            case rel => exact ⟨w5.heap.size, A5, c5, rfl, HDD.out⟩
          refine AllReadyH.cons rfl (fun K hK => ?_) AllReadyH.nil
          · go_simp
            have HQX := Lib.hid (show ((V.drew.alloc (.cells #[] 9)).alloc (.cells #[.int .i64 0, .string ⟨#[]⟩, .string ⟨#[]⟩, .string ⟨#[]⟩, .string ⟨#[]⟩, .slice none 0 0, .int .i64 0, .int .i64 0, .int .i64 0, .int .i64 0] 28)).heap[V.heap.size + 1]? = some (.cells #[.int .i64 0, .string ⟨#[]⟩, .string ⟨#[]⟩, .string ⟨#[]⟩, .string ⟨#[]⟩, .slice none 0 0, .int .i64 0, .int .i64 0, .int .i64 0, .int .i64 0] 28 (0, 0)) from by have := heap_alloc_new (V.drew.alloc (.cells #[] 9)) (.cells #[.int .i64 0, .string ⟨#[]⟩, .string ⟨#[]⟩, .string ⟨#[]⟩, .string ⟨#[]⟩, .slice none 0 0, .int .i64 0, .int .i64 0, .int .i64 0, .int .i64 0] 28); rwa [show (V.drew.alloc (.cells #[] 9)).heap.size = V.heap.size + 1 by simp] at this)
            have HOE := Lib.hid (HOE.out.alloc (.cells #[.int .i64 0, .string ⟨#[]⟩, .string ⟨#[]⟩, .string ⟨#[]⟩, .string ⟨#[]⟩, .slice none 0 0, .int .i64 0, .int .i64 0, .int .i64 0, .int .i64 0] 28))
            have HBE := Lib.hid (HBE.out.alloc HBE.out.size (.cells #[.int .i64 0, .string ⟨#[]⟩, .string ⟨#[]⟩, .string ⟨#[]⟩, .string ⟨#[]⟩, .slice none 0 0, .int .i64 0, .int .i64 0, .int .i64 0, .int .i64 0] 28))
            refine hK.out _ _ (HSS.out _ HBE.out) (fun hHeld => ?_)
            clear hK K
            try simp only [Act.put, List.getElem_toArray, List.getElem_cons_zero, List.getElem_cons_succ, List.setIfInBounds_toArray, List.set_cons_zero, List.set_cons_succ]
            refine wpAnyH_ready (rs := [13]) (by kernel_rfl) (by simp) ?_
            refine AllReadyH.cons rfl (fun K hK => ?_) AllReadyH.nil
            refine step_append_word _ rfl _ _ rfl V.heap.size _ 0 [] rfl HOE.out a n cap word rfl (Strs.under HWD.out HBE.out) (by omega) HBE.out.size ?_
            intro v5 w5 ho5 hg5
            rw [Nat.zero_add, List.nil_append] at ho5
            obtain ⟨A5, c5, rfl⟩ := Gn.slice_of ho5
            have HDS := Lib.hid (show DupS V w5 (.slice A5 n c5) n word from ⟨grown_below hg5 HBE.out (fun k hk => Gn.own_block HOE.out k hk), ho5⟩)
            have HX5 := Lib.hid (show w5.heap[(V.heap.size + 1)]? = some (.cells #[.int .i64 0, .string ⟨#[]⟩, .string ⟨#[]⟩, .string ⟨#[]⟩, .string ⟨#[]⟩, .slice none 0 0, .int .i64 0, .int .i64 0, .int .i64 0, .int .i64 0] 28 (0, 0)) from (Oct.grown_keeps hg5 HOE.out HQX.out (by decide)))
            have HQV := Lib.hid (show V.heap.size ≤ (V.heap.size + 1) by omega)
            have g0 := Gn.frozen_row HX5.out 0
            have g1 := Gn.frozen_row HX5.out 1
            have g2 := Gn.frozen_row HX5.out 2
            have g3 := Gn.frozen_row HX5.out 3
            have g4 := Gn.frozen_row HX5.out 4
            have g5 := Gn.frozen_row HX5.out 5
            have g6 := Gn.frozen_row HX5.out 6
            have g7 := Gn.frozen_row HX5.out 7
            have g8 := Gn.frozen_row HX5.out 8
            have g9 := Gn.frozen_row HX5.out 9
            have z0 := cell_of_row _ _ 0 _ _ (0, 0) HX5.out
            have z1 := cell_of_row _ _ 1 _ _ (0, 0) HX5.out
            have z2 := cell_of_row _ _ 2 _ _ (0, 0) HX5.out
            have z3 := cell_of_row _ _ 3 _ _ (0, 0) HX5.out
            have z4 := cell_of_row _ _ 4 _ _ (0, 0) HX5.out
            have z5 := cell_of_row _ _ 5 _ _ (0, 0) HX5.out
            have z6 := cell_of_row _ _ 6 _ _ (0, 0) HX5.out
            have z7 := cell_of_row _ _ 7 _ _ (0, 0) HX5.out
            have z8 := cell_of_row _ _ 8 _ _ (0, 0) HX5.out
            have z9 := cell_of_row _ _ 9 _ _ (0, 0) HX5.out
            clear ho5 hg5
            refine hK.out _ _ (HSS.out _ HDS.out.bel) (fun hHeld => ?_)
            clear hK K
            try simp only [Act.put, List.getElem_toArray, List.getElem_cons_zero, List.getElem_cons_succ, List.setIfInBounds_toArray, List.set_cons_zero, List.set_cons_succ]
            refine wpAnyH_take (i := 16) (v := ?_) rfl (by kernel_rfl) (by kernel_rfl) (by kernel_rfl) (fun _ _ _ h => h) (Or.inl ⟨by rfl, ?_⟩) (by assumption) ?_
            rotate_left
            · intro w hSw
              try dsimp only at hSw
              go_simp
              try with_reducible rfl
            try simp only [Act.put, List.getElem_toArray, List.getElem_cons_zero, List.getElem_cons_succ, List.setIfInBounds_toArray, List.set_cons_zero, List.set_cons_succ]
            refine wpAnyH_ready (rs := [18]) (by kernel_rfl) (by simp) ?_
            refine AllReadyH.cons rfl (fun K hK => ?_) AllReadyH.nil
            go_simp
            have HDD := Lib.hid (HDS.out.early (kind := kind) (who := who) (nm := nm) (oth := oth) (txt := txt) (n0 := n0) (n1 := n1) (n2 := n2) (n3 := n3) HQV.out HX5.out)
            refine hK.out _ _ (HSS.out _ HDD.out.1) (fun hHeld => ?_)
            clear hK K
            try simp only [Act.put, List.getElem_toArray, List.getElem_cons_zero, List.getElem_cons_succ, List.setIfInBounds_toArray, List.set_cons_zero, List.set_cons_succ]
            refine wpAnyH_done (by kernel_rfl) ?_ _
            refine NoPanic.normal ?_
            go_wp2_with fail
            go_meet
            case rel => exact ⟨(V.heap.size + 1), A5, c5, rfl, HDD.out⟩
        refine AllReadyH.cons rfl (fun K hK => ?_) AllReadyH.nil
        · go_simp
          have HQX := Lib.hid (heap_alloc_new V.drew (.cells #[.int .i64 0, .string ⟨#[]⟩, .string ⟨#[]⟩, .string ⟨#[]⟩, .string ⟨#[]⟩, .slice none 0 0, .int .i64 0, .int .i64 0, .int .i64 0, .int .i64 0] 28))
          have HBE := Lib.hid ((Gn.below_drew (Below.refl V.heap.size V)).alloc (Nat.le_refl _) (.cells #[.int .i64 0, .string ⟨#[]⟩, .string ⟨#[]⟩, .string ⟨#[]⟩, .string ⟨#[]⟩, .slice none 0 0, .int .i64 0, .int .i64 0, .int .i64 0, .int .i64 0] 28))
          refine hK.out _ _ (HSS.out _ HBE.out) (fun hHeld => ?_)
          clear hK K
          try simp only [Act.put, List.getElem_toArray, List.getElem_cons_zero, List.getElem_cons_succ, List.setIfInBounds_toArray, List.set_cons_zero, List.set_cons_succ]
          refine wpAnyH_ready (rs := [10]) (by kernel_rfl) (by simp) ?_
          refine AllReadyH.cons rfl (fun K hK => ?_) AllReadyH.nil
          go_simp
          have HOE := Lib.hid (show ((V.drew.alloc (.cells #[.int .i64 0, .string ⟨#[]⟩, .string ⟨#[]⟩, .string ⟨#[]⟩, .string ⟨#[]⟩, .slice none 0 0, .int .i64 0, .int .i64 0, .int .i64 0, .int .i64 0] 28)).alloc (.cells #[] 9)).ownsRow V.heap.size 9 1 (.slice (some ⟨V.heap.size + 1, 0, none⟩) 0 0) 0 [] from own_empty (base := V.heap.size) (by have := heap_alloc_new (V.drew.alloc (.cells #[.int .i64 0, .string ⟨#[]⟩, .string ⟨#[]⟩, .string ⟨#[]⟩, .string ⟨#[]⟩, .slice none 0 0, .int .i64 0, .int .i64 0, .int .i64 0, .int .i64 0] 28)) (.cells #[] 9); rwa [show (V.drew.alloc (.cells #[.int .i64 0, .string ⟨#[]⟩, .string ⟨#[]⟩, .string ⟨#[]⟩, .string ⟨#[]⟩, .slice none 0 0, .int .i64 0, .int .i64 0, .int .i64 0, .int .i64 0] 28)).heap.size = V.heap.size + 1 by simp] at this) (by omega))
          have HQX := Lib.hid (show ((V.drew.alloc (.cells #[.int .i64 0, .string ⟨#[]⟩, .string ⟨#[]⟩, .string ⟨#[]⟩, .string ⟨#[]⟩, .slice none 0 0, .int .i64 0, .int .i64 0, .int .i64 0, .int .i64 0] 28)).alloc (.cells #[] 9)).heap[V.heap.size]? = some (.cells #[.int .i64 0, .string ⟨#[]⟩, .string ⟨#[]⟩, .string ⟨#[]⟩, .string ⟨#[]⟩, .slice none 0 0, .int .i64 0, .int .i64 0, .int .i64 0, .int .i64 0] 28 (0, 0)) from (heap_alloc_old _ _ (Gn.heap_lt HQX.out)).trans HQX.out)
          have HBE := Lib.hid (HBE.out.alloc HBE.out.size (.cells #[] 9))
          refine hK.out _ _ (HSS.out _ HBE.out) (fun hHeld => ?_)
          clear hK K
          try simp only [Act.put, List.getElem_toArray, List.getElem_cons_zero, List.getElem_cons_succ, List.setIfInBounds_toArray, List.set_cons_zero, List.set_cons_succ]
          refine wpAnyH_ready (rs := [13]) (by kernel_rfl) (by simp) ?_
          refine AllReadyH.cons rfl (fun K hK => ?_) AllReadyH.nil
          refine step_append_word _ rfl _ _ rfl V.heap.size _ 0 [] rfl HOE.out a n cap word rfl (Strs.under HWD.out HBE.out) (by omega) HBE.out.size ?_
          intro v5 w5 ho5 hg5
          rw [Nat.zero_add, List.nil_append] at ho5
          obtain ⟨A5, c5, rfl⟩ := Gn.slice_of ho5
          have HDS := Lib.hid (show DupS V w5 (.slice A5 n c5) n word from ⟨grown_below hg5 HBE.out (fun k hk => Gn.own_block HOE.out k hk), ho5⟩)
          have HX5 := Lib.hid (show w5.heap[V.heap.size]? = some (.cells #[.int .i64 0, .string ⟨#[]⟩, .string ⟨#[]⟩, .string ⟨#[]⟩, .string ⟨#[]⟩, .slice none 0 0, .int .i64 0, .int .i64 0, .int .i64 0, .int .i64 0] 28 (0, 0)) from (Oct.grown_keeps hg5 HOE.out HQX.out (by decide)))
          have HQV := Lib.hid (show V.heap.size ≤ V.heap.size by omega)
          have g0 := Gn.frozen_row HX5.out 0
          have g1 := Gn.frozen_row HX5.out 1
          have g2 := Gn.frozen_row HX5.out 2
          have g3 := Gn.frozen_row HX5.out 3
          have g4 := Gn.frozen_row HX5.out 4
          have g5 := Gn.frozen_row HX5.out 5
          have g6 := Gn.frozen_row HX5.out 6
          have g7 := Gn.frozen_row HX5.out 7
          have g8 := Gn.frozen_row HX5.out 8
          have g9 := Gn.frozen_row HX5.out 9
          have z0 := cell_of_row _ _ 0 _ _ (0, 0) HX5.out
          have z1 := cell_of_row _ _ 1 _ _ (0, 0) HX5.out
          have z2 := cell_of_row _ _ 2 _ _ (0, 0) HX5.out
          have z3 := cell_of_row _ _ 3 _ _ (0, 0) HX5.out
          have z4 := cell_of_row _ _ 4 _ _ (0, 0) HX5.out
          have z5 := cell_of_row _ _ 5 _ _ (0, 0) HX5.out
          have z6 := cell_of_row _ _ 6 _ _ (0, 0) HX5.out
          have z7 := cell_of_row _ _ 7 _ _ (0, 0) HX5.out
          have z8 := cell_of_row _ _ 8 _ _ (0, 0) HX5.out
          have z9 := cell_of_row _ _ 9 _ _ (0, 0) HX5.out
          clear ho5 hg5
          refine hK.out _ _ (HSS.out _ HDS.out.bel) (fun hHeld => ?_)
          clear hK K
          try simp only [Act.put, List.getElem_toArray, List.getElem_cons_zero, List.getElem_cons_succ, List.setIfInBounds_toArray, List.set_cons_zero, List.set_cons_succ]
          refine wpAnyH_take (i := 16) (v := ?_) rfl (by kernel_rfl) (by kernel_rfl) (by kernel_rfl) (fun _ _ _ h => h) (Or.inl ⟨by rfl, ?_⟩) (by assumption) ?_
          rotate_left
          · intro w hSw
            try dsimp only at hSw
            go_simp
            try with_reducible rfl
          try simp only [Act.put, List.getElem_toArray, List.getElem_cons_zero, List.getElem_cons_succ, List.setIfInBounds_toArray, List.set_cons_zero, List.set_cons_succ]
          refine wpAnyH_ready (rs := [18]) (by kernel_rfl) (by simp) ?_
          refine AllReadyH.cons rfl (fun K hK => ?_) AllReadyH.nil
          go_simp
          have HDD := Lib.hid (HDS.out.early (kind := kind) (who := who) (nm := nm) (oth := oth) (txt := txt) (n0 := n0) (n1 := n1) (n2 := n2) (n3 := n3) HQV.out HX5.out)
          refine hK.out _ _ (HSS.out _ HDD.out.1) (fun hHeld => ?_)
          clear hK K
          try simp only [Act.put, List.getElem_toArray, List.getElem_cons_zero, List.getElem_cons_succ, List.setIfInBounds_toArray, List.set_cons_zero, List.set_cons_succ]
          refine wpAnyH_done (by kernel_rfl) ?_ _
          refine NoPanic.normal ?_
          go_wp2_with fail
          go_meet
          case rel => exact ⟨V.heap.size, A5, c5, rfl, HDD.out⟩
      case rest =>
        obtain ⟨q, A5, c5, rfl, hD⟩ := hcut
        obtain ⟨w3, rfl⟩ : ∃ w, w = wc := ⟨_, rfl⟩
        have HD := Lib.hid hD
        have HSQ1 := HRB
        have HSW1 := HWD
        have HRB := Lib.hid ((HD.out.1.block _ (Gn.heap_lt HRK.out)).trans HRK.out)
        have HWD := Lib.hid (Strs.under HWE.out HD.out.1)
        clear hD
        go_upto_region 6 with fail
        have HSS := Lib.hid (fun (w' : World) (b : Below w3.heap.size w3 w') => show (fun w' : World => w'.cell? ⟨rb2, 0, none⟩ = some (.int .i64 kind2) ∧ w'.cell? ⟨rb2, 1, none⟩ = some (.string who2) ∧ w'.cell? ⟨rb2, 2, none⟩ = some (.string nm2) ∧ w'.cell? ⟨rb2, 3, none⟩ = some (.string oth2) ∧ w'.cell? ⟨rb2, 4, none⟩ = some (.string txt2) ∧ w'.cell? ⟨rb2, 5, none⟩ = some (.slice a2 nn2 cap2) ∧ w'.cell? ⟨rb2, 6, none⟩ = some (.int .i64 n02) ∧ w'.cell? ⟨rb2, 7, none⟩ = some (.int .i64 n12) ∧ w'.cell? ⟨rb2, 8, none⟩ = some (.int .i64 n22) ∧ w'.cell? ⟨rb2, 9, none⟩ = some (.int .i64 n32)) w' from by
          have hx := (b.block _ (Gn.heap_lt HRB.out)).trans HRB.out
          exact ⟨cell_of_row _ _ 0 _ _ (0, 0) hx, cell_of_row _ _ 1 _ _ (0, 0) hx, cell_of_row _ _ 2 _ _ (0, 0) hx, cell_of_row _ _ 3 _ _ (0, 0) hx, cell_of_row _ _ 4 _ _ (0, 0) hx, cell_of_row _ _ 5 _ _ (0, 0) hx, cell_of_row _ _ 6 _ _ (0, 0) hx, cell_of_row _ _ 7 _ _ (0, 0) hx, cell_of_row _ _ 8 _ _ (0, 0) hx, cell_of_row _ _ 9 _ _ (0, 0) hx⟩)
        go_cut [6] from 33 to 49 (fun sa wx => ∃ (q : Nat) (A5 : Option Addr) (c5 : Nat), sa = .pointer (some ⟨q, 0, none⟩) ∧ Dup w3 wx q A5 c5 nn2 kind2 who2 nm2 oth2 txt2 word2 n02 n12 n22 n32)
        case first =>
          refine wp_region_noPanic ?_
          refine wp_region_held_drew (S := (fun w' : World => w'.cell? ⟨rb2, 0, none⟩ = some (.int .i64 kind2) ∧ w'.cell? ⟨rb2, 1, none⟩ = some (.string who2) ∧ w'.cell? ⟨rb2, 2, none⟩ = some (.string nm2) ∧ w'.cell? ⟨rb2, 3, none⟩ = some (.string oth2) ∧ w'.cell? ⟨rb2, 4, none⟩ = some (.string txt2) ∧ w'.cell? ⟨rb2, 5, none⟩ = some (.slice a2 nn2 cap2) ∧ w'.cell? ⟨rb2, 6, none⟩ = some (.int .i64 n02) ∧ w'.cell? ⟨rb2, 7, none⟩ = some (.int .i64 n12) ∧ w'.cell? ⟨rb2, 8, none⟩ = some (.int .i64 n22) ∧ w'.cell? ⟨rb2, 9, none⟩ = some (.int .i64 n32))) (by kernel_rfl) ?_ (fun hHeld => ?_)
          · exact HSS.out _ (Gn.below_drew (Below.refl _ _))
          conv in Array.replicate _ false => change #[false, false, false, false, false, false, false, false, false, false, false, false, false, false, false, false, false, false, false]
          refine wpAnyH_take (i := 0) (v := ?_) rfl (by kernel_rfl) (by kernel_rfl) (by kernel_rfl) (fun _ _ _ h => h) (Or.inl ⟨by rfl, ?_⟩) (by assumption) ?_
          rotate_left
          · intro w hSw
            try dsimp only at hSw
            go_simp
            try with_reducible rfl
          try simp only [Act.put, List.getElem_toArray, List.getElem_cons_zero, List.getElem_cons_succ, List.setIfInBounds_toArray, List.set_cons_zero, List.set_cons_succ]
          refine wpAnyH_take (i := 1) (v := ?_) rfl (by kernel_rfl) (by kernel_rfl) (by kernel_rfl) (fun _ _ _ h => h) (Or.inl ⟨by rfl, ?_⟩) (by assumption) ?_
          rotate_left
          · intro w hSw
            try dsimp only at hSw
            go_simp
            try with_reducible rfl
          try simp only [Act.put, List.getElem_toArray, List.getElem_cons_zero, List.getElem_cons_succ, List.setIfInBounds_toArray, List.set_cons_zero, List.set_cons_succ]
          refine wpAnyH_take (i := 2) (v := ?_) rfl (by kernel_rfl) (by kernel_rfl) (by kernel_rfl) (fun _ _ _ h => h) (Or.inl ⟨by rfl, ?_⟩) (by assumption) ?_
          rotate_left
          · intro w hSw
            try dsimp only at hSw
            go_simp
            try with_reducible rfl
          try simp only [Act.put, List.getElem_toArray, List.getElem_cons_zero, List.getElem_cons_succ, List.setIfInBounds_toArray, List.set_cons_zero, List.set_cons_succ]
          refine wpAnyH_take (i := 3) (v := ?_) rfl (by kernel_rfl) (by kernel_rfl) (by kernel_rfl) (fun _ _ _ h => h) (Or.inl ⟨by rfl, ?_⟩) (by assumption) ?_
          rotate_left
          · intro w hSw
            try dsimp only at hSw
            go_simp
            try with_reducible rfl
          try simp only [Act.put, List.getElem_toArray, List.getElem_cons_zero, List.getElem_cons_succ, List.setIfInBounds_toArray, List.set_cons_zero, List.set_cons_succ]
          refine wpAnyH_take (i := 4) (v := ?_) rfl (by kernel_rfl) (by kernel_rfl) (by kernel_rfl) (fun _ _ _ h => h) (Or.inl ⟨by rfl, ?_⟩) (by assumption) ?_
          rotate_left
          · intro w hSw
            try dsimp only at hSw
            go_simp
            try with_reducible rfl
          try simp only [Act.put, List.getElem_toArray, List.getElem_cons_zero, List.getElem_cons_succ, List.setIfInBounds_toArray, List.set_cons_zero, List.set_cons_succ]
          refine wpAnyH_take (i := 5) (v := ?_) rfl (by kernel_rfl) (by kernel_rfl) (by kernel_rfl) (fun _ _ _ h => h) (Or.inl ⟨by rfl, ?_⟩) (by assumption) ?_
          rotate_left
          · intro w hSw
            try dsimp only at hSw
            go_simp
            try with_reducible rfl
          try simp only [Act.put, List.getElem_toArray, List.getElem_cons_zero, List.getElem_cons_succ, List.setIfInBounds_toArray, List.set_cons_zero, List.set_cons_succ]
          refine wpAnyH_take (i := 6) (v := ?_) rfl (by kernel_rfl) (by kernel_rfl) (by kernel_rfl) (fun _ _ _ h => h) (Or.inl ⟨by rfl, ?_⟩) (by assumption) ?_
          rotate_left
          · intro w hSw
            try dsimp only at hSw
            go_simp
            try with_reducible rfl
          try simp only [Act.put, List.getElem_toArray, List.getElem_cons_zero, List.getElem_cons_succ, List.setIfInBounds_toArray, List.set_cons_zero, List.set_cons_succ]
          refine wpAnyH_take (i := 7) (v := ?_) rfl (by kernel_rfl) (by kernel_rfl) (by kernel_rfl) (fun _ _ _ h => h) (Or.inl ⟨by rfl, ?_⟩) (by assumption) ?_
          rotate_left
          · intro w hSw
            try dsimp only at hSw
            go_simp
            try with_reducible rfl
          try simp only [Act.put, List.getElem_toArray, List.getElem_cons_zero, List.getElem_cons_succ, List.setIfInBounds_toArray, List.set_cons_zero, List.set_cons_succ]
          refine wpAnyH_take (i := 8) (v := ?_) rfl (by kernel_rfl) (by kernel_rfl) (by kernel_rfl) (fun _ _ _ h => h) (Or.inl ⟨by rfl, ?_⟩) (by assumption) ?_
          rotate_left
          · intro w hSw
            try dsimp only at hSw
            go_simp
            try with_reducible rfl
          try simp only [Act.put, List.getElem_toArray, List.getElem_cons_zero, List.getElem_cons_succ, List.setIfInBounds_toArray, List.set_cons_zero, List.set_cons_succ]
          refine wpAnyH_take (i := 9) (v := ?_) rfl (by kernel_rfl) (by kernel_rfl) (by kernel_rfl) (fun _ _ _ h => h) (Or.inl ⟨by rfl, ?_⟩) (by assumption) ?_
          rotate_left
          · intro w hSw
            try dsimp only at hSw
            go_simp
            try with_reducible rfl
          try simp only [Act.put, List.getElem_toArray, List.getElem_cons_zero, List.getElem_cons_succ, List.setIfInBounds_toArray, List.set_cons_zero, List.set_cons_succ]
          refine wpAnyH_take (i := 11) (v := ?_) rfl (by kernel_rfl) (by kernel_rfl) (by kernel_rfl) (fun _ _ _ h => h) (Or.inl ⟨by rfl, ?_⟩) (by assumption) ?_
          rotate_left
          · intro w hSw
            try dsimp only at hSw
            go_simp
            try with_reducible rfl
          try simp only [Act.put, List.getElem_toArray, List.getElem_cons_zero, List.getElem_cons_succ, List.setIfInBounds_toArray, List.set_cons_zero, List.set_cons_succ]
          refine wpAnyH_take (i := 12) (v := ?_) rfl (by kernel_rfl) (by kernel_rfl) (by kernel_rfl) (fun _ _ _ h => h) (Or.inl ⟨by rfl, ?_⟩) (by assumption) ?_
          rotate_left
          · intro w hSw
            try dsimp only at hSw
            go_simp
            try with_reducible rfl
          try simp only [Act.put, List.getElem_toArray, List.getElem_cons_zero, List.getElem_cons_succ, List.setIfInBounds_toArray, List.set_cons_zero, List.set_cons_succ]
          refine wpAnyH_take (i := 14) (v := ?_) rfl (by kernel_rfl) (by kernel_rfl) (by kernel_rfl) (fun _ _ _ h => h) (Or.inl ⟨by rfl, ?_⟩) (by assumption) ?_
          rotate_left
          · intro w hSw
            try dsimp only at hSw
            go_simp
            try with_reducible rfl
          try simp only [Act.put, List.getElem_toArray, List.getElem_cons_zero, List.getElem_cons_succ, List.setIfInBounds_toArray, List.set_cons_zero, List.set_cons_succ]
          refine wpAnyH_take (i := 15) (v := ?_) rfl (by kernel_rfl) (by kernel_rfl) (by kernel_rfl) (fun _ _ _ h => h) (Or.inl ⟨by rfl, ?_⟩) (by assumption) ?_
          rotate_left
          · intro w hSw
            try dsimp only at hSw
            go_simp
            try with_reducible rfl
          try simp only [Act.put, List.getElem_toArray, List.getElem_cons_zero, List.getElem_cons_succ, List.setIfInBounds_toArray, List.set_cons_zero, List.set_cons_succ]
          refine wpAnyH_ready (rs := [10, 17]) (by kernel_rfl) (by simp) ?_
          refine AllReadyH.cons rfl (fun K hK => ?_) ?_
          · go_simp
            have HBE := Lib.hid ((Gn.below_drew (Below.refl w3.heap.size w3)).alloc (Nat.le_refl _) (.cells #[] 9))
            have HOE := Lib.hid (own_empty (base := w3.heap.size) (heap_alloc_new w3.drew (.cells #[] 9)) (Nat.le_refl _))
            skip
            refine hK.out _ _ (HSS.out _ HBE.out) (fun hHeld => ?_)
            clear hK K
            try simp only [Act.put, List.getElem_toArray, List.getElem_cons_zero, List.getElem_cons_succ, List.setIfInBounds_toArray, List.set_cons_zero, List.set_cons_succ]
            refine wpAnyH_ready (rs := [13, 17]) (by kernel_rfl) (by simp) ?_
            refine AllReadyH.cons rfl (fun K hK => ?_) ?_
            · refine step_append_word _ rfl _ _ rfl w3.heap.size _ 0 [] rfl HOE.out a2 nn2 cap2 word2 rfl (Strs.under HWD.out HBE.out) (by omega) HBE.out.size ?_
              intro v5 w5 ho5 hg5
              rw [Nat.zero_add, List.nil_append] at ho5
              obtain ⟨A5, c5, rfl⟩ := Gn.slice_of ho5
              have HDS := Lib.hid (show DupS w3 w5 (.slice A5 nn2 c5) nn2 word2 from ⟨grown_below hg5 HBE.out (fun k hk => Gn.own_block HOE.out k hk), ho5⟩)
              clear ho5 hg5
              refine hK.out _ _ (HSS.out _ HDS.out.bel) (fun hHeld => ?_)
              clear hK K
              try simp only [Act.put, List.getElem_toArray, List.getElem_cons_zero, List.getElem_cons_succ, List.setIfInBounds_toArray, List.set_cons_zero, List.set_cons_succ]
              refine wpAnyH_take (i := 16) (v := ?_) rfl (by kernel_rfl) (by kernel_rfl) (by kernel_rfl) (fun _ _ _ h => h) (Or.inl ⟨by rfl, ?_⟩) (by assumption) ?_
              rotate_left
              · intro w hSw
                try dsimp only at hSw
                go_simp
                try with_reducible rfl
              try simp only [Act.put, List.getElem_toArray, List.getElem_cons_zero, List.getElem_cons_succ, List.setIfInBounds_toArray, List.set_cons_zero, List.set_cons_succ]
              refine wpAnyH_ready (rs := [17]) (by kernel_rfl) (by simp) ?_
              refine AllReadyH.cons rfl (fun K hK => ?_) AllReadyH.nil
              go_simp
              refine hK.out _ _ (HSS.out _ (HDS.out.bel.trans (((Below.refl _ _).alloc (Nat.le_refl _) _).mono HDS.out.bel.size))) (fun hHeld => ?_)
              clear hK K
              try simp only [Act.put, List.getElem_toArray, List.getElem_cons_zero, List.getElem_cons_succ, List.setIfInBounds_toArray, List.set_cons_zero, List.set_cons_succ]
              refine wpAnyH_ready (rs := [18]) (by kernel_rfl) (by simp) ?_
              refine AllReadyH.cons rfl (fun K hK => ?_) AllReadyH.nil
              go_simp
              have HDD := Lib.hid (HDS.out.late (kind := kind2) (who := who2) (nm := nm2) (oth := oth2) (txt := txt2) (n0 := n02) (n1 := n12) (n2 := n22) (n3 := n32))
              refine hK.out _ _ (HSS.out _ HDD.out.1) (fun hHeld => ?_)
              clear hK K
              try simp only [Act.put, List.getElem_toArray, List.getElem_cons_zero, List.getElem_cons_succ, List.setIfInBounds_toArray, List.set_cons_zero, List.set_cons_succ]
              refine wpAnyH_done (by kernel_rfl) ?_ _
              refine NoPanic.normal ?_
              go_wp2_with fail
              go_meet
              case rel => exact ⟨w5.heap.size, A5, c5, rfl, HDD.out⟩
            refine AllReadyH.cons rfl (fun K hK => ?_) AllReadyH.nil
            · go_simp
              have HQX := Lib.hid (show ((w3.drew.alloc (.cells #[] 9)).alloc (.cells #[.int .i64 0, .string ⟨#[]⟩, .string ⟨#[]⟩, .string ⟨#[]⟩, .string ⟨#[]⟩, .slice none 0 0, .int .i64 0, .int .i64 0, .int .i64 0, .int .i64 0] 28)).heap[w3.heap.size + 1]? = some (.cells #[.int .i64 0, .string ⟨#[]⟩, .string ⟨#[]⟩, .string ⟨#[]⟩, .string ⟨#[]⟩, .slice none 0 0, .int .i64 0, .int .i64 0, .int .i64 0, .int .i64 0] 28 (0, 0)) from by have := heap_alloc_new (w3.drew.alloc (.cells #[] 9)) (.cells #[.int .i64 0, .string ⟨#[]⟩, .string ⟨#[]⟩, .string ⟨#[]⟩, .string ⟨#[]⟩, .slice none 0 0, .int .i64 0, .int .i64 0, .int .i64 0, .int .i64 0] 28); rwa [show (w3.drew.alloc (.cells #[] 9)).heap.size = w3.heap.size + 1 by simp] at this)
              have HOE := Lib.hid (HOE.out.alloc (.cells #[.int .i64 0, .string ⟨#[]⟩, .string ⟨#[]⟩, .string ⟨#[]⟩, .string ⟨#[]⟩, .slice none 0 0, .int .i64 0, .int .i64 0, .int .i64 0, .int .i64 0] 28))
              have HBE := Lib.hid (HBE.out.alloc HBE.out.size (.cells #[.int .i64 0, .string ⟨#[]⟩, .string ⟨#[]⟩, .string ⟨#[]⟩, .string ⟨#[]⟩, .slice none 0 0, .int .i64 0, .int .i64 0, .int .i64 0, .int .i64 0] 28))
              refine hK.out _ _ (HSS.out _ HBE.out) (fun hHeld => ?_)
              clear hK K
              try simp only [Act.put, List.getElem_toArray, List.getElem_cons_zero, List.getElem_cons_succ, List.setIfInBounds_toArray, List.set_cons_zero, List.set_cons_succ]
              refine wpAnyH_ready (rs := [13]) (by kernel_rfl) (by simp) ?_
              refine AllReadyH.cons rfl (fun K hK => ?_) AllReadyH.nil
              refine step_append_word _ rfl _ _ rfl w3.heap.size _ 0 [] rfl HOE.out a2 nn2 cap2 word2 rfl (Strs.under HWD.out HBE.out) (by omega) HBE.out.size ?_
              intro v5 w5 ho5 hg5
              rw [Nat.zero_add, List.nil_append] at ho5
              obtain ⟨A5, c5, rfl⟩ := Gn.slice_of ho5
              have HDS := Lib.hid (show DupS w3 w5 (.slice A5 nn2 c5) nn2 word2 from ⟨grown_below hg5 HBE.out (fun k hk => Gn.own_block HOE.out k hk), ho5⟩)
              have HX5 := Lib.hid (show w5.heap[(w3.heap.size + 1)]? = some (.cells #[.int .i64 0, .string ⟨#[]⟩, .string ⟨#[]⟩, .string ⟨#[]⟩, .string ⟨#[]⟩, .slice none 0 0, .int .i64 0, .int .i64 0, .int .i64 0, .int .i64 0] 28 (0, 0)) from (Oct.grown_keeps hg5 HOE.out HQX.out (by decide)))
              have HQV := Lib.hid (show w3.heap.size ≤ (w3.heap.size + 1) by omega)
              have g0 := Gn.frozen_row HX5.out 0
              have g1 := Gn.frozen_row HX5.out 1
              have g2 := Gn.frozen_row HX5.out 2
              have g3 := Gn.frozen_row HX5.out 3
              have g4 := Gn.frozen_row HX5.out 4
              have g5 := Gn.frozen_row HX5.out 5
              have g6 := Gn.frozen_row HX5.out 6
              have g7 := Gn.frozen_row HX5.out 7
              have g8 := Gn.frozen_row HX5.out 8
              have g9 := Gn.frozen_row HX5.out 9
              have z0 := cell_of_row _ _ 0 _ _ (0, 0) HX5.out
              have z1 := cell_of_row _ _ 1 _ _ (0, 0) HX5.out
              have z2 := cell_of_row _ _ 2 _ _ (0, 0) HX5.out
              have z3 := cell_of_row _ _ 3 _ _ (0, 0) HX5.out
              have z4 := cell_of_row _ _ 4 _ _ (0, 0) HX5.out
              have z5 := cell_of_row _ _ 5 _ _ (0, 0) HX5.out
              have z6 := cell_of_row _ _ 6 _ _ (0, 0) HX5.out
              have z7 := cell_of_row _ _ 7 _ _ (0, 0) HX5.out
              have z8 := cell_of_row _ _ 8 _ _ (0, 0) HX5.out
              have z9 := cell_of_row _ _ 9 _ _ (0, 0) HX5.out
              clear ho5 hg5
              refine hK.out _ _ (HSS.out _ HDS.out.bel) (fun hHeld => ?_)
              clear hK K
              try simp only [Act.put, List.getElem_toArray, List.getElem_cons_zero, List.getElem_cons_succ, List.setIfInBounds_toArray, List.set_cons_zero, List.set_cons_succ]
              refine wpAnyH_take (i := 16) (v := ?_) rfl (by kernel_rfl) (by kernel_rfl) (by kernel_rfl) (fun _ _ _ h => h) (Or.inl ⟨by rfl, ?_⟩) (by assumption) ?_
              rotate_left
              · intro w hSw
                try dsimp only at hSw
                go_simp
                try with_reducible rfl
              try simp only [Act.put, List.getElem_toArray, List.getElem_cons_zero, List.getElem_cons_succ, List.setIfInBounds_toArray, List.set_cons_zero, List.set_cons_succ]
              refine wpAnyH_ready (rs := [18]) (by kernel_rfl) (by simp) ?_
              refine AllReadyH.cons rfl (fun K hK => ?_) AllReadyH.nil
              go_simp
              have HDD := Lib.hid (HDS.out.early (kind := kind2) (who := who2) (nm := nm2) (oth := oth2) (txt := txt2) (n0 := n02) (n1 := n12) (n2 := n22) (n3 := n32) HQV.out HX5.out)
              refine hK.out _ _ (HSS.out _ HDD.out.1) (fun hHeld => ?_)
              clear hK K
              try simp only [Act.put, List.getElem_toArray, List.getElem_cons_zero, List.getElem_cons_succ, List.setIfInBounds_toArray, List.set_cons_zero, List.set_cons_succ]
              refine wpAnyH_done (by kernel_rfl) ?_ _
              refine NoPanic.normal ?_
              go_wp2_with fail
              go_meet
              case rel => exact ⟨(w3.heap.size + 1), A5, c5, rfl, HDD.out⟩
          refine AllReadyH.cons rfl (fun K hK => ?_) AllReadyH.nil
          · go_simp
            have HQX := Lib.hid (heap_alloc_new w3.drew (.cells #[.int .i64 0, .string ⟨#[]⟩, .string ⟨#[]⟩, .string ⟨#[]⟩, .string ⟨#[]⟩, .slice none 0 0, .int .i64 0, .int .i64 0, .int .i64 0, .int .i64 0] 28))
            have HBE := Lib.hid ((Gn.below_drew (Below.refl w3.heap.size w3)).alloc (Nat.le_refl _) (.cells #[.int .i64 0, .string ⟨#[]⟩, .string ⟨#[]⟩, .string ⟨#[]⟩, .string ⟨#[]⟩, .slice none 0 0, .int .i64 0, .int .i64 0, .int .i64 0, .int .i64 0] 28))
            refine hK.out _ _ (HSS.out _ HBE.out) (fun hHeld => ?_)
            clear hK K
            try simp only [Act.put, List.getElem_toArray, List.getElem_cons_zero, List.getElem_cons_succ, List.setIfInBounds_toArray, List.set_cons_zero, List.set_cons_succ]
            refine wpAnyH_ready (rs := [10]) (by kernel_rfl) (by simp) ?_
            refine AllReadyH.cons rfl (fun K hK => ?_) AllReadyH.nil
            go_simp
            have HOE := Lib.hid (show ((w3.drew.alloc (.cells #[.int .i64 0, .string ⟨#[]⟩, .string ⟨#[]⟩, .string ⟨#[]⟩, .string ⟨#[]⟩, .slice none 0 0, .int .i64 0, .int .i64 0, .int .i64 0, .int .i64 0] 28)).alloc (.cells #[] 9)).ownsRow w3.heap.size 9 1 (.slice (some ⟨w3.heap.size + 1, 0, none⟩) 0 0) 0 [] from own_empty (base := w3.heap.size) (by have := heap_alloc_new (w3.drew.alloc (.cells #[.int .i64 0, .string ⟨#[]⟩, .string ⟨#[]⟩, .string ⟨#[]⟩, .string ⟨#[]⟩, .slice none 0 0, .int .i64 0, .int .i64 0, .int .i64 0, .int .i64 0] 28)) (.cells #[] 9); rwa [show (w3.drew.alloc (.cells #[.int .i64 0, .string ⟨#[]⟩, .string ⟨#[]⟩, .string ⟨#[]⟩, .string ⟨#[]⟩, .slice none 0 0, .int .i64 0, .int .i64 0, .int .i64 0, .int .i64 0] 28)).heap.size = w3.heap.size + 1 by simp] at this) (by omega))
            have HQX := Lib.hid (show ((w3.drew.alloc (.cells #[.int .i64 0, .string ⟨#[]⟩, .string ⟨#[]⟩, .string ⟨#[]⟩, .string ⟨#[]⟩, .slice none 0 0, .int .i64 0, .int .i64 0, .int .i64 0, .int .i64 0] 28)).alloc (.cells #[] 9)).heap[w3.heap.size]? = some (.cells #[.int .i64 0, .string ⟨#[]⟩, .string ⟨#[]⟩, .string ⟨#[]⟩, .string ⟨#[]⟩, .slice none 0 0, .int .i64 0, .int .i64 0, .int .i64 0, .int .i64 0] 28 (0, 0)) from (heap_alloc_old _ _ (Gn.heap_lt HQX.out)).trans HQX.out)
            have HBE := Lib.hid (HBE.out.alloc HBE.out.size (.cells #[] 9))
            refine hK.out _ _ (HSS.out _ HBE.out) (fun hHeld => ?_)
            clear hK K
            try simp only [Act.put, List.getElem_toArray, List.getElem_cons_zero, List.getElem_cons_succ, List.setIfInBounds_toArray, List.set_cons_zero, List.set_cons_succ]
            refine wpAnyH_ready (rs := [13]) (by kernel_rfl) (by simp) ?_
            refine AllReadyH.cons rfl (fun K hK => ?_) AllReadyH.nil
            refine step_append_word _ rfl _ _ rfl w3.heap.size _ 0 [] rfl HOE.out a2 nn2 cap2 word2 rfl (Strs.under HWD.out HBE.out) (by omega) HBE.out.size ?_
            intro v5 w5 ho5 hg5
            rw [Nat.zero_add, List.nil_append] at ho5
            obtain ⟨A5, c5, rfl⟩ := Gn.slice_of ho5
            have HDS := Lib.hid (show DupS w3 w5 (.slice A5 nn2 c5) nn2 word2 from ⟨grown_below hg5 HBE.out (fun k hk => Gn.own_block HOE.out k hk), ho5⟩)
            have HX5 := Lib.hid (show w5.heap[w3.heap.size]? = some (.cells #[.int .i64 0, .string ⟨#[]⟩, .string ⟨#[]⟩, .string ⟨#[]⟩, .string ⟨#[]⟩, .slice none 0 0, .int .i64 0, .int .i64 0, .int .i64 0, .int .i64 0] 28 (0, 0)) from (Oct.grown_keeps hg5 HOE.out HQX.out (by decide)))
            have HQV := Lib.hid (show w3.heap.size ≤ w3.heap.size by omega)
            have g0 := Gn.frozen_row HX5.out 0
            have g1 := Gn.frozen_row HX5.out 1
            have g2 := Gn.frozen_row HX5.out 2
            have g3 := Gn.frozen_row HX5.out 3
            have g4 := Gn.frozen_row HX5.out 4
            have g5 := Gn.frozen_row HX5.out 5
            have g6 := Gn.frozen_row HX5.out 6
            have g7 := Gn.frozen_row HX5.out 7
            have g8 := Gn.frozen_row HX5.out 8
            have g9 := Gn.frozen_row HX5.out 9
            have z0 := cell_of_row _ _ 0 _ _ (0, 0) HX5.out
            have z1 := cell_of_row _ _ 1 _ _ (0, 0) HX5.out
            have z2 := cell_of_row _ _ 2 _ _ (0, 0) HX5.out
            have z3 := cell_of_row _ _ 3 _ _ (0, 0) HX5.out
            have z4 := cell_of_row _ _ 4 _ _ (0, 0) HX5.out
            have z5 := cell_of_row _ _ 5 _ _ (0, 0) HX5.out
            have z6 := cell_of_row _ _ 6 _ _ (0, 0) HX5.out
            have z7 := cell_of_row _ _ 7 _ _ (0, 0) HX5.out
            have z8 := cell_of_row _ _ 8 _ _ (0, 0) HX5.out
            have z9 := cell_of_row _ _ 9 _ _ (0, 0) HX5.out
            clear ho5 hg5
            refine hK.out _ _ (HSS.out _ HDS.out.bel) (fun hHeld => ?_)
            clear hK K
            try simp only [Act.put, List.getElem_toArray, List.getElem_cons_zero, List.getElem_cons_succ, List.setIfInBounds_toArray, List.set_cons_zero, List.set_cons_succ]
            refine wpAnyH_take (i := 16) (v := ?_) rfl (by kernel_rfl) (by kernel_rfl) (by kernel_rfl) (fun _ _ _ h => h) (Or.inl ⟨by rfl, ?_⟩) (by assumption) ?_
            rotate_left
            · intro w hSw
              try dsimp only at hSw
              go_simp
              try with_reducible rfl
            try simp only [Act.put, List.getElem_toArray, List.getElem_cons_zero, List.getElem_cons_succ, List.setIfInBounds_toArray, List.set_cons_zero, List.set_cons_succ]
            refine wpAnyH_ready (rs := [18]) (by kernel_rfl) (by simp) ?_
            refine AllReadyH.cons rfl (fun K hK => ?_) AllReadyH.nil
            go_simp
            have HDD := Lib.hid (HDS.out.early (kind := kind2) (who := who2) (nm := nm2) (oth := oth2) (txt := txt2) (n0 := n02) (n1 := n12) (n2 := n22) (n3 := n32) HQV.out HX5.out)
            refine hK.out _ _ (HSS.out _ HDD.out.1) (fun hHeld => ?_)
            clear hK K
            try simp only [Act.put, List.getElem_toArray, List.getElem_cons_zero, List.getElem_cons_succ, List.setIfInBounds_toArray, List.set_cons_zero, List.set_cons_succ]
            refine wpAnyH_done (by kernel_rfl) ?_ _
            refine NoPanic.normal ?_
            go_wp2_with fail
            go_meet
            case rel => exact ⟨w3.heap.size, A5, c5, rfl, HDD.out⟩
        case rest =>
          obtain ⟨q2, A6, c6, rfl, hE⟩ := hcut
          obtain ⟨w4, rfl⟩ : ∃ w, w = wc := ⟨_, rfl⟩
          have HE := Lib.hid hE
          have HBW := Lib.hid ((HBV.out.trans (HD.out.1.mono HBV.out.size)).trans (hE.1.mono (by have := HBV.out.size; have := HD.out.1.size; omega)))
          have HXA := Lib.hid ((hE.1.block _ (Gn.heap_lt HD.out.2.2.1)).trans HD.out.2.2.1)
          have HXB := Lib.hid (show w4.heap[q2]? = some (.cells #[.int .i64 kind2, .string who2, .string nm2, .string oth2, .string txt2, .slice A6 nn2 c6, .int .i64 n02, .int .i64 n12, .int .i64 n22, .int .i64 n32] 28 (0, 0)) from hE.2.2.1)
          have HSA := Lib.hid (Strs.under HD.out.2.2.2 hE.1)
          have HSB := Lib.hid (show Strs w4 A6 nn2 word2 from hE.2.2.2)
          have HRC := Lib.hid ((hE.1.block _ (Gn.heap_lt HRB.out)).trans HRB.out)
          have HWF := Lib.hid (Strs.under HWD.out hE.1)
          clear hE
          have x0 := cell_of_row _ _ 0 _ _ (0, 0) HXA.out
          have x1 := cell_of_row _ _ 1 _ _ (0, 0) HXA.out
          have x2 := cell_of_row _ _ 2 _ _ (0, 0) HXA.out
          have x3 := cell_of_row _ _ 3 _ _ (0, 0) HXA.out
          have x4 := cell_of_row _ _ 4 _ _ (0, 0) HXA.out
          have x5 := cell_of_row _ _ 5 _ _ (0, 0) HXA.out
          have x6 := cell_of_row _ _ 6 _ _ (0, 0) HXA.out
          have x7 := cell_of_row _ _ 7 _ _ (0, 0) HXA.out
          have x8 := cell_of_row _ _ 8 _ _ (0, 0) HXA.out
          have x9 := cell_of_row _ _ 9 _ _ (0, 0) HXA.out
          go_wp2_with fail
          refine (HGA.out _ _ _ HSA.out).mono ?_
          rintro e w5 ⟨rfl, b5⟩
          have HB5 := Lib.hid (HBW.out.trans (b5.mono HBW.out.size))
          have HXC := Lib.hid ((b5.block _ (Gn.heap_lt HXA.out)).trans HXA.out)
          have HXD := Lib.hid ((b5.block _ (Gn.heap_lt HXB.out)).trans HXB.out)
          have HSC := Lib.hid (Strs.under HSA.out b5)
          have HSD := Lib.hid (Strs.under HSB.out b5)
          have HRD := Lib.hid ((b5.block _ (Gn.heap_lt HRC.out)).trans HRC.out)
          have HWG := Lib.hid (Strs.under HWF.out b5)
          clear b5 x0 x1 x2 x3 x4 x5 x6 x7 x8 x9
          cases g0 with
          | false =>
            go_wp2
            go_ret
            exact ⟨rfl, HB5.out⟩
          | true =>
            have y0 := cell_of_row _ _ 0 _ _ (0, 0) HXD.out
            have y1 := cell_of_row _ _ 1 _ _ (0, 0) HXD.out
            have y2 := cell_of_row _ _ 2 _ _ (0, 0) HXD.out
            have y3 := cell_of_row _ _ 3 _ _ (0, 0) HXD.out
            have y4 := cell_of_row _ _ 4 _ _ (0, 0) HXD.out
            have y5 := cell_of_row _ _ 5 _ _ (0, 0) HXD.out
            have y6 := cell_of_row _ _ 6 _ _ (0, 0) HXD.out
            have y7 := cell_of_row _ _ 7 _ _ (0, 0) HXD.out
            have y8 := cell_of_row _ _ 8 _ _ (0, 0) HXD.out
            have y9 := cell_of_row _ _ 9 _ _ (0, 0) HXD.out
            go_wp2_with fail
            refine (HGB.out _ _ _ HSD.out).mono ?_
            rintro e w6 ⟨rfl, b6⟩
            have HB6 := Lib.hid (HB5.out.trans (b6.mono HB5.out.size))
            have HXE := Lib.hid ((b6.block _ (Gn.heap_lt HXC.out)).trans HXC.out)
            have HXF := Lib.hid ((b6.block _ (Gn.heap_lt HXD.out)).trans HXD.out)
            have HSE := Lib.hid (Strs.under HSC.out b6)
            have HSF := Lib.hid (Strs.under HSD.out b6)
            have HRE := Lib.hid ((b6.block _ (Gn.heap_lt HRD.out)).trans HRD.out)
            have HWH := Lib.hid (Strs.under HWG.out b6)
            clear b6 y0 y1 y2 y3 y4 y5 y6 y7 y8 y9
            cases g1 with
            | false =>
              go_wp2
              go_ret
              exact ⟨rfl, HB6.out⟩
            | true =>
              obtain ⟨U, hU⟩ : ∃ U, U = w6.alloc (.cells #[.int .i64 kind2, .string who2, .string nm2, .string oth2, .string txt2, .slice a2 nn2 cap2, .int .i64 n02, .int .i64 n12, .int .i64 n22, .int .i64 n32] 29) := ⟨_, rfl⟩
              have hbU : Below w6.heap.size w6 U := by rw [hU]; exact (Below.refl _ _).alloc (Nat.le_refl _) _
              have hxU : U.heap[w6.heap.size]? = some (.cells #[.int .i64 kind2, .string who2, .string nm2, .string oth2, .string txt2, .slice a2 nn2 cap2, .int .i64 n02, .int .i64 n12, .int .i64 n22, .int .i64 n32] 29 (0, 0)) := by rw [hU]; exact heap_alloc_new _ _
              obtain ⟨q3, hq3⟩ : ∃ g, g = w6.heap.size := ⟨_, rfl⟩
              rw [← hq3] at hxU
              have HBU := Lib.hid (HB6.out.trans (hbU.mono HB6.out.size))
              have HXG := Lib.hid ((hbU.block _ (Gn.heap_lt HXE.out)).trans HXE.out)
              have HXH := Lib.hid ((hbU.block _ (Gn.heap_lt HXF.out)).trans HXF.out)
              have HXI := Lib.hid hxU
              have HSG := Lib.hid (Strs.under HSE.out hbU)
              have HSH := Lib.hid (Strs.under HSF.out hbU)
              have HWI := Lib.hid (Strs.under HWH.out hbU)
              have HU := Lib.hid hU
              have HQ3 := Lib.hid hq3
              clear hU hbU hxU hq3
              have z0 := cell_of_row _ _ 0 _ _ (0, 0) HRE.out
              have z1 := cell_of_row _ _ 1 _ _ (0, 0) HRE.out
              have z2 := cell_of_row _ _ 2 _ _ (0, 0) HRE.out
              have z3 := cell_of_row _ _ 3 _ _ (0, 0) HRE.out
              have z4 := cell_of_row _ _ 4 _ _ (0, 0) HRE.out
              have z5 := cell_of_row _ _ 5 _ _ (0, 0) HRE.out
              have z6 := cell_of_row _ _ 6 _ _ (0, 0) HRE.out
              have z7 := cell_of_row _ _ 7 _ _ (0, 0) HRE.out
              have z8 := cell_of_row _ _ 8 _ _ (0, 0) HRE.out
              have z9 := cell_of_row _ _ 9 _ _ (0, 0) HRE.out
              go_upto_region 10 with fail
              rw [← HU.out, ← HQ3.out]
              clear z0 z1 z2 z3 z4 z5 z6 z7 z8 z9
              have HCE := Lib.hid (fun (w' : World) (b9 : Below U.heap.size U w') => show w'.cell? ⟨q, 0, none⟩ = some (.int .i64 kind) ∧ w'.cell? ⟨q, 1, none⟩ = some (.string who) ∧ w'.cell? ⟨q, 2, none⟩ = some (.string nm) ∧ w'.cell? ⟨q, 3, none⟩ = some (.string oth) ∧ w'.cell? ⟨q, 4, none⟩ = some (.string txt) ∧ w'.cell? ⟨q, 5, none⟩ = some (.slice A5 n c5) ∧ w'.cell? ⟨q, 6, none⟩ = some (.int .i64 n0) ∧ w'.cell? ⟨q, 7, none⟩ = some (.int .i64 n1) ∧ w'.cell? ⟨q, 8, none⟩ = some (.int .i64 n2) ∧ w'.cell? ⟨q, 9, none⟩ = some (.int .i64 n3) ∧ w'.cell? ⟨q2, 0, none⟩ = some (.int .i64 kind2) ∧ w'.cell? ⟨q2, 1, none⟩ = some (.string who2) ∧ w'.cell? ⟨q2, 2, none⟩ = some (.string nm2) ∧ w'.cell? ⟨q2, 3, none⟩ = some (.string oth2) ∧ w'.cell? ⟨q2, 4, none⟩ = some (.string txt2) ∧ w'.cell? ⟨q2, 5, none⟩ = some (.slice A6 nn2 c6) ∧ w'.cell? ⟨q2, 6, none⟩ = some (.int .i64 n02) ∧ w'.cell? ⟨q2, 7, none⟩ = some (.int .i64 n12) ∧ w'.cell? ⟨q2, 8, none⟩ = some (.int .i64 n22) ∧ w'.cell? ⟨q2, 9, none⟩ = some (.int .i64 n32) ∧ w'.cell? ⟨q3, 0, none⟩ = some (.int .i64 kind2) ∧ w'.cell? ⟨q3, 1, none⟩ = some (.string who2) ∧ w'.cell? ⟨q3, 2, none⟩ = some (.string nm2) ∧ w'.cell? ⟨q3, 3, none⟩ = some (.string oth2) ∧ w'.cell? ⟨q3, 4, none⟩ = some (.string txt2) ∧ w'.cell? ⟨q3, 5, none⟩ = some (.slice a2 nn2 cap2) ∧ w'.cell? ⟨q3, 6, none⟩ = some (.int .i64 n02) ∧ w'.cell? ⟨q3, 7, none⟩ = some (.int .i64 n12) ∧ w'.cell? ⟨q3, 8, none⟩ = some (.int .i64 n22) ∧ w'.cell? ⟨q3, 9, none⟩ = some (.int .i64 n32) from by
                have hx := (b9.block _ (Gn.heap_lt HXG.out)).trans HXG.out
                have hy := (b9.block _ (Gn.heap_lt HXH.out)).trans HXH.out
                have hz := (b9.block _ (Gn.heap_lt HXI.out)).trans HXI.out
                exact ⟨cell_of_row _ _ 0 _ _ (0, 0) hx, cell_of_row _ _ 1 _ _ (0, 0) hx, cell_of_row _ _ 2 _ _ (0, 0) hx, cell_of_row _ _ 3 _ _ (0, 0) hx, cell_of_row _ _ 4 _ _ (0, 0) hx, cell_of_row _ _ 5 _ _ (0, 0) hx, cell_of_row _ _ 6 _ _ (0, 0) hx, cell_of_row _ _ 7 _ _ (0, 0) hx, cell_of_row _ _ 8 _ _ (0, 0) hx, cell_of_row _ _ 9 _ _ (0, 0) hx, cell_of_row _ _ 0 _ _ (0, 0) hy, cell_of_row _ _ 1 _ _ (0, 0) hy, cell_of_row _ _ 2 _ _ (0, 0) hy, cell_of_row _ _ 3 _ _ (0, 0) hy, cell_of_row _ _ 4 _ _ (0, 0) hy, cell_of_row _ _ 5 _ _ (0, 0) hy, cell_of_row _ _ 6 _ _ (0, 0) hy, cell_of_row _ _ 7 _ _ (0, 0) hy, cell_of_row _ _ 8 _ _ (0, 0) hy, cell_of_row _ _ 9 _ _ (0, 0) hy, cell_of_row _ _ 0 _ _ (0, 0) hz, cell_of_row _ _ 1 _ _ (0, 0) hz, cell_of_row _ _ 2 _ _ (0, 0) hz, cell_of_row _ _ 3 _ _ (0, 0) hz, cell_of_row _ _ 4 _ _ (0, 0) hz, cell_of_row _ _ 5 _ _ (0, 0) hz, cell_of_row _ _ 6 _ _ (0, 0) hz, cell_of_row _ _ 7 _ _ (0, 0) hz, cell_of_row _ _ 8 _ _ (0, 0) hz, cell_of_row _ _ 9 _ _ (0, 0) hz⟩)
              have heq := HEQ.out (by trivial) (by trivial)
              cases t0 with
              | true =>
                have hss : (s.toList == s2.toList) = true := by rw [toList_beq]; exact decide_eq_true (heq.2 rfl)
                clear heq
                refine LooseD.region_loose (fun w9 => Below U.heap.size U w9) _ _ (by kernel_rfl) (by kernel_rfl)
                  (LooseD.waits (D := [[], [], [], [], [], [], [], [], [], []]) (by kernel_rfl))
                  (LooseD.stays (ts := [none, some (.is (.string s)), none, some (.is (.string s2)), none, none, none, some (.is (.bool true)), none, none]) (fun w w' h b => h.trans (b.mono h.size)) (.none (.is (.none (.is (.none (.none (.none (.is (.none (.none .nil)))))))))))
                  (Gn.below_drew (Below.refl _ _)) ?_
                refine LooseD.reads (.agg #[.int .i64 kind, .string who, .string nm, .string oth, .string txt, .slice A5 n c5, .int .i64 n0, .int .i64 n1, .int .i64 n2, .int .i64 n3]) rfl rfl ?_ ?_
                · intro w9 hw
                  obtain ⟨x0, x1, x2, x3, x4, x5, x6, x7, x8, x9, y0, y1, y2, y3, y4, y5, y6, y7, y8, y9, z0, z1, z2, z3, z4, z5, z6, z7, z8, z9⟩ := HCE.out w9 hw
                  clear hw
                  go_simp
                try simp only [Act.put, List.setIfInBounds_toArray, List.set_cons_zero, List.set_cons_succ]
                refine LooseD.gives (.string s) 10 #[.agg #[.int .i64 kind, .string who, .string nm, .string oth, .string txt, .slice A5 n c5, .int .i64 n0, .int .i64 n1, .int .i64 n2, .int .i64 n3]] rfl rfl ?_ (fun w9 hw hH => HPA.out w9 _ _ (Strs.under HSG.out hw)) ?_
                · intro w9 hw
                  clear hw
                  go_simp
                try simp only [Act.put, List.setIfInBounds_toArray, List.set_cons_zero, List.set_cons_succ]
                refine LooseD.reads (.agg #[.int .i64 kind2, .string who2, .string nm2, .string oth2, .string txt2, .slice A6 nn2 c6, .int .i64 n02, .int .i64 n12, .int .i64 n22, .int .i64 n32]) rfl rfl ?_ ?_
                · intro w9 hw
                  obtain ⟨x0, x1, x2, x3, x4, x5, x6, x7, x8, x9, y0, y1, y2, y3, y4, y5, y6, y7, y8, y9, z0, z1, z2, z3, z4, z5, z6, z7, z8, z9⟩ := HCE.out w9 hw
                  clear hw
                  go_simp
                try simp only [Act.put, List.setIfInBounds_toArray, List.set_cons_zero, List.set_cons_succ]
                refine LooseD.gives (.string s2) 10 #[.agg #[.int .i64 kind2, .string who2, .string nm2, .string oth2, .string txt2, .slice A6 nn2 c6, .int .i64 n02, .int .i64 n12, .int .i64 n22, .int .i64 n32]] rfl rfl ?_ (fun w9 hw hH => HPB.out w9 _ _ (Strs.under HSH.out hw)) ?_
                · intro w9 hw
                  clear hw
                  go_simp
                try simp only [Act.put, List.setIfInBounds_toArray, List.set_cons_zero, List.set_cons_succ]
                refine LooseD.reads (.bool true) rfl rfl ?_ ?_
                · intro w9 hw
                  clear hw
                  go_simp
                try simp only [Act.put, List.setIfInBounds_toArray, List.set_cons_zero, List.set_cons_succ]
                refine LooseD.reads (.agg #[.int .i64 kind, .string who, .string nm, .string oth, .string txt, .slice A5 n c5, .int .i64 n0, .int .i64 n1, .int .i64 n2, .int .i64 n3]) rfl rfl ?_ ?_
                · intro w9 hw
                  obtain ⟨x0, x1, x2, x3, x4, x5, x6, x7, x8, x9, y0, y1, y2, y3, y4, y5, y6, y7, y8, y9, z0, z1, z2, z3, z4, z5, z6, z7, z8, z9⟩ := HCE.out w9 hw
                  clear hw
                  go_simp
                try simp only [Act.put, List.setIfInBounds_toArray, List.set_cons_zero, List.set_cons_succ]
                refine LooseD.reads (.agg #[.int .i64 kind2, .string who2, .string nm2, .string oth2, .string txt2, .slice a2 nn2 cap2, .int .i64 n02, .int .i64 n12, .int .i64 n22, .int .i64 n32]) rfl rfl ?_ ?_
                · intro w9 hw
                  obtain ⟨x0, x1, x2, x3, x4, x5, x6, x7, x8, x9, y0, y1, y2, y3, y4, y5, y6, y7, y8, y9, z0, z1, z2, z3, z4, z5, z6, z7, z8, z9⟩ := HCE.out w9 hw
                  clear hw
                  go_simp
                try simp only [Act.put, List.setIfInBounds_toArray, List.set_cons_zero, List.set_cons_succ]
                refine LooseD.gives (.bool true) 15 #[.agg #[.int .i64 kind, .string who, .string nm, .string oth, .string txt, .slice A5 n c5, .int .i64 n0, .int .i64 n1, .int .i64 n2, .int .i64 n3], .agg #[.int .i64 kind2, .string who2, .string nm2, .string oth2, .string txt2, .slice a2 nn2 cap2, .int .i64 n02, .int .i64 n12, .int .i64 n22, .int .i64 n32]] rfl rfl ?_ (fun w9 hw hH => HSM.out w9 _ _ ⟨A5, c5, by dsimp only; rw [HN.out], by dsimp only; rw [HN.out]; exact Strs.under HSG.out hw⟩ ⟨a2, cap2, by dsimp only; rw [HM.out], by dsimp only; rw [HM.out]; exact Strs.under HWI.out hw⟩) ?_
                · intro w9 hw
                  clear hw
                  go_simp
                try simp only [Act.put, List.setIfInBounds_toArray, List.set_cons_zero, List.set_cons_succ]
                refine LooseD.reads (.bool true) rfl rfl ?_ ?_
                · intro w9 hw
                  clear hw
                  go_simp
                try simp only [Act.put, List.setIfInBounds_toArray, List.set_cons_zero, List.set_cons_succ]
                refine LooseD.reads (.bool true) rfl rfl ?_ ?_
                · intro w9 hw
                  clear hw
                  go_simp
                try simp only [Act.put, List.setIfInBounds_toArray, List.set_cons_zero, List.set_cons_succ]
                refine LooseD.done ?_
                intro w7 hw7 _
                have HB7 := Lib.hid (HBU.out.trans (hw7.mono HBU.out.size))
                clear hw7
                go_wp2
                go_ret
                exact ⟨rfl, HB7.out⟩
              | false =>
                have hss : (s.toList == s2.toList) = false := by rw [toList_beq]; exact decide_eq_false (fun h => by have := heq.1 h; cases this)
                clear heq
                refine LooseD.region_loose (fun w9 => Below U.heap.size U w9) _ _ (by kernel_rfl) (by kernel_rfl)
                  (LooseD.waits (D := [[], [], [], [], [], [], [], [], [], []]) (by kernel_rfl))
                  (LooseD.stays (ts := [none, some (.is (.string s)), none, some (.is (.string s2)), none, none, none, some (.is (.bool false)), none, none]) (fun w w' h b => h.trans (b.mono h.size)) (.none (.is (.none (.is (.none (.none (.none (.is (.none (.none .nil)))))))))))
                  (Gn.below_drew (Below.refl _ _)) ?_
                refine LooseD.reads (.agg #[.int .i64 kind, .string who, .string nm, .string oth, .string txt, .slice A5 n c5, .int .i64 n0, .int .i64 n1, .int .i64 n2, .int .i64 n3]) rfl rfl ?_ ?_
                · intro w9 hw
                  obtain ⟨x0, x1, x2, x3, x4, x5, x6, x7, x8, x9, y0, y1, y2, y3, y4, y5, y6, y7, y8, y9, z0, z1, z2, z3, z4, z5, z6, z7, z8, z9⟩ := HCE.out w9 hw
                  clear hw
                  go_simp
                try simp only [Act.put, List.setIfInBounds_toArray, List.set_cons_zero, List.set_cons_succ]
                refine LooseD.gives (.string s) 10 #[.agg #[.int .i64 kind, .string who, .string nm, .string oth, .string txt, .slice A5 n c5, .int .i64 n0, .int .i64 n1, .int .i64 n2, .int .i64 n3]] rfl rfl ?_ (fun w9 hw hH => HPA.out w9 _ _ (Strs.under HSG.out hw)) ?_
                · intro w9 hw
                  clear hw
                  go_simp
                try simp only [Act.put, List.setIfInBounds_toArray, List.set_cons_zero, List.set_cons_succ]
                refine LooseD.reads (.agg #[.int .i64 kind2, .string who2, .string nm2, .string oth2, .string txt2, .slice A6 nn2 c6, .int .i64 n02, .int .i64 n12, .int .i64 n22, .int .i64 n32]) rfl rfl ?_ ?_
                · intro w9 hw
                  obtain ⟨x0, x1, x2, x3, x4, x5, x6, x7, x8, x9, y0, y1, y2, y3, y4, y5, y6, y7, y8, y9, z0, z1, z2, z3, z4, z5, z6, z7, z8, z9⟩ := HCE.out w9 hw
                  clear hw
                  go_simp
                try simp only [Act.put, List.setIfInBounds_toArray, List.set_cons_zero, List.set_cons_succ]
                refine LooseD.gives (.string s2) 10 #[.agg #[.int .i64 kind2, .string who2, .string nm2, .string oth2, .string txt2, .slice A6 nn2 c6, .int .i64 n02, .int .i64 n12, .int .i64 n22, .int .i64 n32]] rfl rfl ?_ (fun w9 hw hH => HPB.out w9 _ _ (Strs.under HSH.out hw)) ?_
                · intro w9 hw
                  clear hw
                  go_simp
                try simp only [Act.put, List.setIfInBounds_toArray, List.set_cons_zero, List.set_cons_succ]
                refine LooseD.reads (.bool false) rfl rfl ?_ ?_
                · intro w9 hw
                  clear hw
                  go_simp
                try simp only [Act.put, List.setIfInBounds_toArray, List.set_cons_zero, List.set_cons_succ]
                refine LooseD.reads (.agg #[.int .i64 kind, .string who, .string nm, .string oth, .string txt, .slice A5 n c5, .int .i64 n0, .int .i64 n1, .int .i64 n2, .int .i64 n3]) rfl rfl ?_ ?_
                · intro w9 hw
                  obtain ⟨x0, x1, x2, x3, x4, x5, x6, x7, x8, x9, y0, y1, y2, y3, y4, y5, y6, y7, y8, y9, z0, z1, z2, z3, z4, z5, z6, z7, z8, z9⟩ := HCE.out w9 hw
                  clear hw
                  go_simp
                try simp only [Act.put, List.setIfInBounds_toArray, List.set_cons_zero, List.set_cons_succ]
                refine LooseD.reads (.agg #[.int .i64 kind2, .string who2, .string nm2, .string oth2, .string txt2, .slice a2 nn2 cap2, .int .i64 n02, .int .i64 n12, .int .i64 n22, .int .i64 n32]) rfl rfl ?_ ?_
                · intro w9 hw
                  obtain ⟨x0, x1, x2, x3, x4, x5, x6, x7, x8, x9, y0, y1, y2, y3, y4, y5, y6, y7, y8, y9, z0, z1, z2, z3, z4, z5, z6, z7, z8, z9⟩ := HCE.out w9 hw
                  clear hw
                  go_simp
                try simp only [Act.put, List.setIfInBounds_toArray, List.set_cons_zero, List.set_cons_succ]
                refine LooseD.gives (.bool false) 15 #[.agg #[.int .i64 kind, .string who, .string nm, .string oth, .string txt, .slice A5 n c5, .int .i64 n0, .int .i64 n1, .int .i64 n2, .int .i64 n3], .agg #[.int .i64 kind2, .string who2, .string nm2, .string oth2, .string txt2, .slice a2 nn2 cap2, .int .i64 n02, .int .i64 n12, .int .i64 n22, .int .i64 n32]] rfl rfl ?_ (fun w9 hw hH => HSM.out w9 _ _ ⟨A5, c5, by dsimp only; rw [HN.out], by dsimp only; rw [HN.out]; exact Strs.under HSG.out hw⟩ ⟨a2, cap2, by dsimp only; rw [HM.out], by dsimp only; rw [HM.out]; exact Strs.under HWI.out hw⟩) ?_
                · intro w9 hw
                  clear hw
                  go_simp
                try simp only [Act.put, List.setIfInBounds_toArray, List.set_cons_zero, List.set_cons_succ]
                refine LooseD.reads (.bool true) rfl rfl ?_ ?_
                · intro w9 hw
                  clear hw
                  go_simp
                try simp only [Act.put, List.setIfInBounds_toArray, List.set_cons_zero, List.set_cons_succ]
                refine LooseD.reads (.bool true) rfl rfl ?_ ?_
                · intro w9 hw
                  clear hw
                  go_simp
                try simp only [Act.put, List.setIfInBounds_toArray, List.set_cons_zero, List.set_cons_succ]
                refine LooseD.done ?_
                intro w7 hw7 _
                have HB7 := Lib.hid (HBU.out.trans (hw7.mono HBU.out.size))
                clear hw7
                go_wp2
                go_ret
                exact ⟨rfl, HB7.out⟩
end Go.Proofs.Ytpkjcaeijlgclaa.Cm
