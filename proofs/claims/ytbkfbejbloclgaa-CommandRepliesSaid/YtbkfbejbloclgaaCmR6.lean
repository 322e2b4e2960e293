/-
  Layer 21: Same of replies.
-/
import Derived.Test.YtbkfbejbloclgaaCmR5
namespace Go.Proofs.Ytbkfbejbloclgaa.Cm
open Go.RowKit
open Oct (pb bs Strs rInt rText rTexts rErr rEnd At Sep Gives strV OutSt OSep app eInt eText eTexts eLen rng)
open Lx (goodB)
open Gn (Asks)
open Mk (gm canon)
set_option maxRecDepth 100000
set_option linter.unusedSimpArgs false
set_option linter.unusedVariables false

set_option maxHeartbeats 4000000 in
theorem seq_any (a b : Option Addr) (n m cap cap' : Nat) (xs ys : List ByteArray) (w : World) (h : Strs w a n xs) (k : Strs w b m ys) (hn : n ≤ 9223372036854775807) :
    Calls Try.prog 51 #[.slice a n cap, .slice b m cap'] w (Asks (decide (xs = ys)) w) := by
  by_cases hnm : n = m
  · subst hnm
    obtain ⟨R, hR⟩ : ∃ R, R = decide (xs = ys) := ⟨_, rfl⟩
    rw [← hR]
    have HR := Lib.hid hR
    have H := Lib.hid h
    have K := Lib.hid k
    have HL := Lib.hid h.1
    have KL := Lib.hid k.1
    clear h k hR
    go_enter Try.func51, Try.ntmps51
    go_wp2_with fail
    go_loopw [13] (fun i wr => ∃ j : Nat, j ≤ n ∧ i = .int .i64 j ∧ Below w.heap.size w wr ∧ xs.take j = ys.take j) (fun i _ => n - (intOf i).toNat)
    case atStart => exact ⟨0, Nat.zero_le _, rfl, Below.refl _ _, rfl⟩
    case round =>
      obtain ⟨j, hj, rfl, hb, ht⟩ := hrel
      have HB := Lib.hid hb
      have HT := Lib.hid ht
      clear ht hb
      by_cases hlt : j < n
      · have hlt2 : (j : Int) < (n : Int) := by omega
        have hjx : j < xs.length := by rw [HL.out]; exact hlt
        have hjy : j < ys.length := by rw [KL.out]; exact hlt
        obtain ⟨b1, o1, rfl, hb1, c1⟩ := Strs.get (Strs.under H.out HB.out) j hlt
        obtain ⟨b2, o2, rfl, hb2, c2⟩ := Strs.get (Strs.under K.out HB.out) j hlt
        obtain ⟨x, hx⟩ : ∃ x, x = xs[j] := ⟨_, rfl⟩
        obtain ⟨y, hy⟩ : ∃ y, y = ys[j] := ⟨_, rfl⟩
        rw [← hx] at c1
        rw [← hy] at c2
        have HX := Lib.hid hx
        have HY := Lib.hid hy
        clear hx hy
        by_cases hxy : x = y
        · have t1 : (x.toList == y.toList) = true := by rw [toList_beq]; exact decide_eq_true hxy
          have t2 : (x.toList != y.toList) = false := by unfold bne; rw [t1]; rfl
          have HN := Lib.hid (show xs.take (j + 1) = ys.take (j + 1) by rw [List.take_succ_eq_append_getElem hjx, List.take_succ_eq_append_getElem hjy, HT.out, ← HX.out, ← HY.out, hxy])
          clear hxy
          go_wp2_with fail
          go_quiet (fail)
          go_wp2_with fail
          go_roundw
          case rel => exact ⟨j + 1, by omega, by go_num, Gn.below_drewN HB.out _, HN.out⟩
          case measure => simp [intOf]; omega
        · have t1 : (x.toList == y.toList) = false := by rw [toList_beq]; exact decide_eq_false hxy
          have t2 : (x.toList != y.toList) = true := by unfold bne; rw [t1]; rfl
          have HF := Lib.hid (show R = false by
            rw [HR.out]
            refine decide_eq_false fun e => hxy ?_
            subst e
            rw [HX.out, HY.out])
          clear hxy
          go_wp2_with fail
          go_quiet (fail)
          go_wp2_with fail
          go_ret
          exact ⟨by rw [HF.out]; rfl, Gn.below_drewN HB.out _⟩
      · have hje : j = n := by omega
        subst hje
        have HF := Lib.hid (show R = true by
          rw [HR.out]
          refine decide_eq_true ?_
          have := HT.out
          rwa [List.take_of_length_le (by rw [HL.out]; exact Nat.le_refl _), List.take_of_length_le (by rw [KL.out]; exact Nat.le_refl _)] at this)
        go_wp2_with fail
        go_ret
        exact ⟨by rw [HF.out]; rfl, HB.out⟩
  · have hne : ¬ ((n : Int) = (m : Int)) := by omega
    have hf : decide (xs = ys) = false := decide_eq_false fun e => hnm (by rw [← h.1, ← k.1, e])
    rw [hf]
    clear h k hf hnm
    go_enter Try.func51, Try.ntmps51
    go_wp2_with fail
    go_ret
    exact ⟨rfl, Below.refl _ _⟩

theorem same1_any (x y : Nat) (hx : x < 18446744073709551616) (hy : y < 18446744073709551616) (w : World) : Calls Try.prog 50 #[.float .f64 x, .float .f64 y] w (Asks (decide (mk8 x = mk8 y)) w) := by
  have HX := Lib.hid (put8 x hx)
  have HY := Lib.hid (put8 y hy)
  obtain ⟨sx, hsx⟩ : ∃ s, s = mk8 x := ⟨_, rfl⟩
  obtain ⟨sy, hsy⟩ : ∃ s, s = mk8 y := ⟨_, rfl⟩
  rw [← hsx] at HX ⊢
  rw [← hsy] at HY ⊢
  have HT := Lib.hid (toList_beq sx sy)
  clear hsx hsy hx hy
  obtain ⟨q, hq⟩ : ∃ q, q = decide (sx = sy) := ⟨_, rfl⟩
  rw [← hq] at HT ⊢
  have ht := HT.out
  clear hq
  go_enter Try.func50, Try.ntmps50
  go_wp2_with fail
  refine (HX.out _).mono ?_
  rintro e w1 ⟨rfl, b1⟩
  go_wp2_with fail
  refine (HY.out _).mono ?_
  rintro e w2 ⟨rfl, b2⟩
  have HB := Lib.hid (b1.trans (b2.mono b1.size))
  clear b1 b2
  go_wp2
  go_ret
  exact ⟨rfl, HB.out⟩
set_option maxHeartbeats 4000000 in
theorem eqf_any (a b : Option Addr) (n m cap cap' : Nat) (xs ys : List Nat) (w : World) (h : Flts w a n xs) (k : Flts w b m ys) (hn : n ≤ 9223372036854775807) (hx : ∀ x ∈ xs, x < 18446744073709551616) (hy : ∀ x ∈ ys, x < 18446744073709551616) :
    Calls Try.prog 52 #[.slice a n cap, .slice b m cap', .func (.func 50) #[] #[]] w (Asks (decide (n = m) && decide (xs.map mk8 = ys.map mk8)) w) := by
  by_cases hnm : n = m
  · subst hnm
    obtain ⟨R, hR⟩ : ∃ R, R = decide (xs.map mk8 = ys.map mk8) := ⟨_, rfl⟩
    rw [← hR, decide_eq_true rfl, Bool.true_and]
    have HR := Lib.hid hR
    have H := Lib.hid h
    have K := Lib.hid k
    have HL := Lib.hid h.1
    have KL := Lib.hid k.1
    have HLX := Lib.hid hx
    have HLY := Lib.hid hy
    clear h k hR hx hy
    go_enter Try.func52, Try.ntmps52
    go_wp2_with fail
    go_loopw [17] (fun i wr => ∃ j : Nat, j ≤ n ∧ i = .int .i64 j ∧ Below w.heap.size w wr ∧ (xs.take j).map mk8 = (ys.take j).map mk8) (fun i _ => n - (intOf i).toNat)
    case atStart => exact ⟨0, Nat.zero_le _, rfl, Below.refl _ _, rfl⟩
    case round =>
      obtain ⟨j, hj, rfl, hb, ht⟩ := hrel
      have HB := Lib.hid hb
      have HT := Lib.hid ht
      clear ht hb
      by_cases hlt : j < n
      · have hlt2 : (j : Int) < (n : Int) := by omega
        have hjx : j < xs.length := by rw [HL.out]; exact hlt
        have hjy : j < ys.length := by rw [KL.out]; exact hlt
        obtain ⟨b1, o1, rfl, hb1, c1⟩ := Flts.get (Flts.under H.out HB.out) j hlt
        obtain ⟨b2, o2, rfl, hb2, c2⟩ := Flts.get (Flts.under K.out HB.out) j hlt
        obtain ⟨x, hx⟩ : ∃ x, x = xs[j] := ⟨_, rfl⟩
        obtain ⟨y, hy⟩ : ∃ y, y = ys[j] := ⟨_, rfl⟩
        rw [← hx] at c1
        rw [← hy] at c2
        have HC := Lib.hid (same1_any x y (by rw [hx]; exact HLX.out _ (List.getElem_mem _)) (by rw [hy]; exact HLY.out _ (List.getElem_mem _)))
        have HX := Lib.hid hx
        have HY := Lib.hid hy
        clear hx hy
        by_cases hxy : mk8 x = mk8 y
        · rw [decide_eq_true hxy] at HC
          have HN := Lib.hid (show (xs.take (j + 1)).map mk8 = (ys.take (j + 1)).map mk8 by
            rw [List.take_succ_eq_append_getElem hjx, List.take_succ_eq_append_getElem hjy, List.map_append, List.map_append, HT.out, ← HX.out, ← HY.out]
            show _ ++ [mk8 x] = _ ++ [mk8 y]
            rw [hxy])
          clear hxy
          go_wp2_with fail
          refine (HC.out _).mono ?_
          rintro e w2 ⟨rfl, b2⟩
          have HB2 := Lib.hid (HB.out.trans (b2.mono HB.out.size))
          clear b2
          go_wp2_with fail
          exact ⟨⟨j + 1, by omega, by go_num, HB2.out, HN.out⟩, by simp [intOf]; omega⟩
        · rw [decide_eq_false hxy] at HC
          have HF := Lib.hid (show R = false by
            rw [HR.out]
            refine decide_eq_false fun e => hxy ?_
            have h0 := congrArg (fun l => l[j]?) e
            simp only [List.getElem?_map, List.getElem?_eq_getElem hjx, List.getElem?_eq_getElem hjy, Option.map_some] at h0
            injection h0 with h0
            rw [HX.out, HY.out, h0])
          clear hxy
          go_wp2_with fail
          refine (HC.out _).mono ?_
          rintro e w2 ⟨rfl, b2⟩
          have HB2 := Lib.hid (HB.out.trans (b2.mono HB.out.size))
          clear b2
          go_wp2_with fail
          go_ret
          exact ⟨by rw [HF.out]; rfl, HB2.out⟩
      · have hje : j = n := by omega
        subst hje
        have HF := Lib.hid (show R = true by
          rw [HR.out]
          refine decide_eq_true ?_
          have := HT.out
          rwa [List.take_of_length_le (by rw [HL.out]; exact Nat.le_refl _), List.take_of_length_le (by rw [KL.out]; exact Nat.le_refl _)] at this)
        go_wp2_with fail
        go_ret
        exact ⟨by rw [HF.out]; rfl, HB.out⟩
  · have hne : ¬ ((n : Int) = (m : Int)) := by omega
    have hf : (decide (n = m) && decide (xs.map mk8 = ys.map mk8)) = false := by rw [decide_eq_false hnm, Bool.false_and]
    rw [hf]
    clear h k hf hnm hx hy
    go_enter Try.func52, Try.ntmps52
    go_wp2_with fail
    go_ret
    exact ⟨rfl, Below.refl _ _⟩
set_option maxHeartbeats 16000000 in
theorem samer_any (r q : Rep) (v u : Value) (w : World) (hv : RepAt w r v) (hu : RepAt w q u) (hr : FitsR r) (hq9 : FitsR q) :
    Calls Try.prog 20 #[v, u] w (Asks (alikeR r q) w) := by
  obtain ⟨a, cap, b, cap2, rfl, hs, hf⟩ := hv
  obtain ⟨a', cap', b', cap2', rfl, hk, hg⟩ := hu
  obtain ⟨c1, l1, o1, n1, t1, s1, m1⟩ := r
  obtain ⟨c2, l2, o2, n2, t2, s2, m2⟩ := q
  obtain ⟨_, f1, f2, f3⟩ := hr
  obtain ⟨_, g1, g2, g3⟩ := hq9
  dsimp only at *
  have HF3 := Lib.hid f3
  have HG3 := Lib.hid g3
  clear f3 g3
  obtain ⟨n, hn⟩ : ∃ n, n = s1.length := ⟨_, rfl⟩
  obtain ⟨n', hn'⟩ : ∃ n, n = s2.length := ⟨_, rfl⟩
  obtain ⟨m, hm⟩ : ∃ n, n = m1.length := ⟨_, rfl⟩
  obtain ⟨m', hm'⟩ : ∃ n, n = m2.length := ⟨_, rfl⟩
  rw [← hn] at hs f1 ⊢
  rw [← hn'] at hk g1 ⊢
  rw [← hm] at hf f2 ⊢
  rw [← hm'] at hg g2 ⊢
  obtain ⟨V, hV⟩ : ∃ V, V = (w.alloc (.cells #[.int .i64 c1, .int .i64 l1, .int .i64 o1, .int .i64 n1, .string t1, .slice a n cap, .slice b m cap2] 46)).alloc (.cells #[.int .i64 c2, .int .i64 l2, .int .i64 o2, .int .i64 n2, .string t2, .slice a' n' cap', .slice b' m' cap2'] 46) := ⟨_, rfl⟩
  have hb : Below w.heap.size w V := by rw [hV]; exact ((Below.refl _ w).alloc (Nat.le_refl _) _).alloc (by simp) _
  have hx : V.heap[w.heap.size]? = some (.cells #[.int .i64 c1, .int .i64 l1, .int .i64 o1, .int .i64 n1, .string t1, .slice a n cap, .slice b m cap2] 46 (0, 0)) := by rw [hV]; exact (heap_alloc_old _ _ (by simp)).trans (heap_alloc_new w _)
  have hy : V.heap[w.heap.size + 1]? = some (.cells #[.int .i64 c2, .int .i64 l2, .int .i64 o2, .int .i64 n2, .string t2, .slice a' n' cap', .slice b' m' cap2'] 46 (0, 0)) := by
    rw [hV]; have := heap_alloc_new (w.alloc (.cells #[.int .i64 c1, .int .i64 l1, .int .i64 o1, .int .i64 n1, .string t1, .slice a n cap, .slice b m cap2] 46)) (.cells #[.int .i64 c2, .int .i64 l2, .int .i64 o2, .int .i64 n2, .string t2, .slice a' n' cap', .slice b' m' cap2'] 46); simpa using this
  have HT := Lib.hid (seq_any a a' n n' cap cap' s1 s2 V (Strs.under hs hb) (Strs.under hk hb) (by omega))
  have HEF := Lib.hid (fun (W : World) (b9 : Below V.heap.size V W) => eqf_any b b' m m' cap2 cap2' m1 m2 W (Flts.under (Flts.under hf hb) b9) (Flts.under (Flts.under hg hb) b9) (by omega) HF3.out HG3.out)
  obtain ⟨tq, htq⟩ : ∃ g, g = decide (s1 = s2) := ⟨_, rfl⟩
  rw [← htq] at HT
  obtain ⟨z, hz⟩ : ∃ g, g = (decide (m = m') && decide (m1.map mk8 = m2.map mk8)) := ⟨_, rfl⟩
  rw [← hz] at HEF
  obtain ⟨Q, hq⟩ : ∃ q, q = alikeR ⟨c1, l1, o1, n1, t1, s1, m1⟩ ⟨c2, l2, o2, n2, t2, s2, m2⟩ := ⟨_, rfl⟩
  rw [← hq]
  unfold alikeR at hq
  dsimp only at hq
  rw [Bool.and_assoc _ (decide (m1.length = m2.length)), ← htq, ← hm, ← hm', ← hz] at hq
  have HB := Lib.hid hb
  have HV := Lib.hid hV
  have HX := Lib.hid hx
  have HY := Lib.hid hy
  have x0 := cell_of_row _ _ 0 _ _ (0, 0) hx
  have x1 := cell_of_row _ _ 1 _ _ (0, 0) hx
  have x2 := cell_of_row _ _ 2 _ _ (0, 0) hx
  have x3 := cell_of_row _ _ 3 _ _ (0, 0) hx
  have x4 := cell_of_row _ _ 4 _ _ (0, 0) hx
  have x5 := cell_of_row _ _ 5 _ _ (0, 0) hx
  have x6 := cell_of_row _ _ 6 _ _ (0, 0) hx
  have y0 := cell_of_row _ _ 0 _ _ (0, 0) hy
  have y1 := cell_of_row _ _ 1 _ _ (0, 0) hy
  have y2 := cell_of_row _ _ 2 _ _ (0, 0) hy
  have y3 := cell_of_row _ _ 3 _ _ (0, 0) hy
  have y4 := cell_of_row _ _ 4 _ _ (0, 0) hy
  have y5 := cell_of_row _ _ 5 _ _ (0, 0) hy
  have y6 := cell_of_row _ _ 6 _ _ (0, 0) hy
  clear hn hn' hm hm' htq hz hb hV hx hy hs hk hf hg
  by_cases h0 : c1 = c2
  · have f0 : (c1 == c2) = true := by rw [beq_iff_eq]; exact h0
    rw [decide_eq_true h0] at hq
    clear h0
    by_cases h1 : l1 = l2
    · have f1 : (l1 == l2) = true := by rw [beq_iff_eq]; exact h1
      rw [decide_eq_true h1] at hq
      clear h1
      by_cases h2 : o1 = o2
      · have f2 : (o1 == o2) = true := by rw [beq_iff_eq]; exact h2
        rw [decide_eq_true h2] at hq
        clear h2
        by_cases h3 : n1 = n2
        · have f3 : (n1 == n2) = true := by rw [beq_iff_eq]; exact h3
          rw [decide_eq_true h3] at hq
          clear h3
          by_cases h4 : t1 = t2
          · have f4 : (t1.toList == t2.toList) = true := by rw [toList_beq]; exact decide_eq_true h4
            rw [decide_eq_true h4] at hq
            clear h4
            cases tq with
            | false =>
              simp only [Bool.false_and, Bool.and_false, Bool.true_and] at hq
              have HQ := Lib.hid hq
              clear hq
              go_enter Try.func20, Try.ntmps20
              go_upto_region 1 with fail
              rw [← HV.out]
              go_wp2_with fail
              refine HT.out.mono ?_
              rintro e w9 ⟨rfl, hb9⟩
              have HB9 := Lib.hid hb9
              clear hb9 x0 x1 x2 x3 x4 x5 x6 y0 y1 y2 y3 y4 y5 y6
              have x6 := cell_of_row _ _ 6 _ _ (0, 0) ((HB9.out.block _ (Gn.heap_lt HX.out)).trans HX.out)
              have y6 := cell_of_row _ _ 6 _ _ (0, 0) ((HB9.out.block _ (Gn.heap_lt HY.out)).trans HY.out)
              go_wp2
              go_ret
              exact ⟨by rw [HQ.out]; rfl, HB.out.trans (HB9.out.mono HB.out.size)⟩
            | true =>
              simp only [Bool.true_and] at hq
              have HQ := Lib.hid hq
              clear hq
              go_enter Try.func20, Try.ntmps20
              go_upto_region 1 with fail
              rw [← HV.out]
              go_wp2_with fail
              refine HT.out.mono ?_
              rintro e w9 ⟨rfl, hb9⟩
              have HB9 := Lib.hid hb9
              clear hb9 x0 x1 x2 x3 x4 x5 x6 y0 y1 y2 y3 y4 y5 y6
              have x6 := cell_of_row _ _ 6 _ _ (0, 0) ((HB9.out.block _ (Gn.heap_lt HX.out)).trans HX.out)
              have y6 := cell_of_row _ _ 6 _ _ (0, 0) ((HB9.out.block _ (Gn.heap_lt HY.out)).trans HY.out)
              go_wp2_with fail
              refine (HEF.out _ HB9.out).mono ?_
              rintro e w8 ⟨rfl, hb8⟩
              have HB8 := Lib.hid (HB9.out.trans (hb8.mono HB9.out.size))
              clear hb8
              go_wp2
              go_ret
              exact ⟨by rw [HQ.out]; rfl, HB.out.trans (HB8.out.mono HB.out.size)⟩
          · have f4 : (t1.toList == t2.toList) = false := by rw [toList_beq]; exact decide_eq_false h4
            rw [decide_eq_false h4] at hq
            simp only [Bool.false_and, Bool.and_false, Bool.true_and] at hq
            clear h4
            have HQ := Lib.hid hq
            clear hq
            go_enter Try.func20, Try.ntmps20
            go_upto_region 1 with fail
            rw [← HV.out]
            go_wp2
            go_ret
            exact ⟨by rw [HQ.out]; rfl, HB.out⟩
        · have f3 : (n1 == n2) = false := by rw [beq_eq_false_iff_ne]; exact h3
          rw [decide_eq_false h3] at hq
          simp only [Bool.false_and, Bool.and_false, Bool.true_and] at hq
          clear h3
          have HQ := Lib.hid hq
          clear hq
          go_enter Try.func20, Try.ntmps20
          go_upto_region 1 with fail
          rw [← HV.out]
          go_wp2
          go_ret
          exact ⟨by rw [HQ.out]; rfl, HB.out⟩
      · have f2 : (o1 == o2) = false := by rw [beq_eq_false_iff_ne]; exact h2
        rw [decide_eq_false h2] at hq
        simp only [Bool.false_and, Bool.and_false, Bool.true_and] at hq
        clear h2
        have HQ := Lib.hid hq
        clear hq
        go_enter Try.func20, Try.ntmps20
        go_upto_region 1 with fail
        rw [← HV.out]
        go_wp2
        go_ret
        exact ⟨by rw [HQ.out]; rfl, HB.out⟩
    · have f1 : (l1 == l2) = false := by rw [beq_eq_false_iff_ne]; exact h1
      rw [decide_eq_false h1] at hq
      simp only [Bool.false_and, Bool.and_false, Bool.true_and] at hq
      clear h1
      have HQ := Lib.hid hq
      clear hq
      go_enter Try.func20, Try.ntmps20
      go_upto_region 1 with fail
      rw [← HV.out]
      go_wp2
      go_ret
      exact ⟨by rw [HQ.out]; rfl, HB.out⟩
  · have f0 : (c1 == c2) = false := by rw [beq_eq_false_iff_ne]; exact h0
    rw [decide_eq_false h0] at hq
    simp only [Bool.false_and, Bool.and_false, Bool.true_and] at hq
    clear h0
    have HQ := Lib.hid hq
    clear hq
    go_enter Try.func20, Try.ntmps20
    go_upto_region 1 with fail
    rw [← HV.out]
    go_wp2
    go_ret
    exact ⟨by rw [HQ.out]; rfl, HB.out⟩
end Go.Proofs.Ytbkfbejbloclgaa.Cm
