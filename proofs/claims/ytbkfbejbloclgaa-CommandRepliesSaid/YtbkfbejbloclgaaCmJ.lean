/-
  Layer 21: the laws' own comparisons, and how a raw command reads.
-/
import Derived.Test.YtbkfbejbloclgaaCmG
import Derived.Laws.StructEq
import Derived.ChangeKeysEq
import Derived.Laws.IdiomArrays
import Derived.SliceStrings
import Derived.ChangeOld
import Derived.ProofKit
import Derived.OpenShut
import Derived.ShutString
namespace Go.Proofs.Ytbkfbejbloclgaa.Cm
open Go.RowKit
open Oct (pb bs Strs)
open Lx (goodB)
open Gn (Asks)
open Go.ChangeShapes Go.WideShapes
set_option maxRecDepth 100000
set_option linter.unusedSimpArgs false
set_option linter.unusedVariables false
theorem bytes_ext {a b : ByteArray} (h : bs a = bs b) : a = b := by
  cases a; cases b
  congr 1
  exact Array.ext' h
theorem toList_beq (a b : ByteArray) : (a.toList == b.toList) = decide (a = b) := by
  rw [ByteArray.toList_eq, ByteArray.toList_eq, Bool.eq_iff_iff, beq_iff_eq, decide_eq_true_iff]
  exact ⟨fun h => bytes_ext h, fun h => by rw [h]⟩
set_option maxHeartbeats 4000000 in
theorem texts_any (a b : Option Addr) (n m cap cap' : Nat) (xs ys : List ByteArray) (w : World) (h : Strs w a n xs) (k : Strs w b m ys) (hn : n ≤ 9223372036854775807) :
    Calls Try.prog 43 #[.slice a n cap, .slice b m cap'] w (Asks (decide (xs = ys)) w) := by
  by_cases hnm : n = m
  · subst hnm
    obtain ⟨R, hR⟩ : ∃ R, R = decide (xs = ys) := ⟨_, rfl⟩
    rw [← hR]
    have HR := Lib.hid hR
    have H := Lib.hid h
    have K := Lib.hid k
    have HL := Lib.hid h.1
    have KL := Lib.hid k.1
    clear h k hR
    go_enter Try.func43, Try.ntmps43
    go_wp2_with fail
    go_loopw [5] (fun i wr => ∃ j : Nat, j ≤ n ∧ i = .int .i64 j ∧ Below w.heap.size w wr ∧ xs.take j = ys.take j) (fun i _ => n - (intOf i).toNat)
    case atStart => exact ⟨0, Nat.zero_le _, rfl, Below.refl _ _, rfl⟩
    case round =>
      obtain ⟨j, hj, rfl, hb, ht⟩ := hrel
      have HB := Lib.hid hb
      have HT := Lib.hid ht
      clear ht hb
      by_cases hlt : j < n
      · have hlt2 : (j : Int) < (n : Int) := by omega
        have hjx : j < xs.length := by rw [HL.out]; exact hlt
        have hjy : j < ys.length := by rw [KL.out]; exact hlt
        obtain ⟨b1, o1, rfl, hb1, c1⟩ := Strs.get (Strs.under H.out HB.out) j hlt
        obtain ⟨b2, o2, rfl, hb2, c2⟩ := Strs.get (Strs.under K.out HB.out) j hlt
        obtain ⟨x, hx⟩ : ∃ x, x = xs[j] := ⟨_, rfl⟩
        obtain ⟨y, hy⟩ : ∃ y, y = ys[j] := ⟨_, rfl⟩
        rw [← hx] at c1
        rw [← hy] at c2
        have HX := Lib.hid hx
        have HY := Lib.hid hy
        clear hx hy
        by_cases hxy : x = y
        · have t1 : (x.toList == y.toList) = true := by rw [toList_beq]; exact decide_eq_true hxy
          have t2 : (x.toList != y.toList) = false := by unfold bne; rw [t1]; rfl
          have HN := Lib.hid (show xs.take (j + 1) = ys.take (j + 1) by rw [List.take_succ_eq_append_getElem hjx, List.take_succ_eq_append_getElem hjy, HT.out, ← HX.out, ← HY.out, hxy])
          clear hxy
          go_wp2_with fail
          go_quiet (fail)
          go_wp2_with fail
          go_roundw
          case rel => exact ⟨j + 1, by omega, by go_num, Gn.below_drewN HB.out _, HN.out⟩
          case measure => simp [intOf]; omega
        · have t1 : (x.toList == y.toList) = false := by rw [toList_beq]; exact decide_eq_false hxy
          have t2 : (x.toList != y.toList) = true := by unfold bne; rw [t1]; rfl
          have HF := Lib.hid (show R = false by
            rw [HR.out]
            refine decide_eq_false fun e => hxy ?_
            subst e
            rw [HX.out, HY.out])
          clear hxy
          go_wp2_with fail
          go_quiet (fail)
          go_wp2_with fail
          go_ret
          exact ⟨by rw [HF.out]; rfl, Gn.below_drewN HB.out _⟩
      · have hje : j = n := by omega
        subst hje
        have HF := Lib.hid (show R = true by
          rw [HR.out]
          refine decide_eq_true ?_
          have := HT.out
          rwa [List.take_of_length_le (by rw [HL.out]; exact Nat.le_refl _), List.take_of_length_le (by rw [KL.out]; exact Nat.le_refl _)] at this)
        go_wp2_with fail
        go_ret
        exact ⟨by rw [HF.out]; rfl, HB.out⟩
  · have hne : ¬ ((n : Int) = (m : Int)) := by omega
    have hf : decide (xs = ys) = false := decide_eq_false fun e => hnm (by rw [← h.1, ← k.1, e])
    rw [hf]
    clear h k hf hnm
    go_enter Try.func43, Try.ntmps43
    go_wp2_with fail
    go_ret
    exact ⟨rfl, Below.refl _ _⟩
theorem int_info : ∃ i, Try.prog.info? 3 = some i := by
  have h : (Try.prog.info? 3).isSome = true := by kernel_rfl
  exact Option.isSome_iff_exists.1 h
theorem nums_eql (a0 a1 a2 a3 b0 b1 b2 b3 : Int) (W : World) : (binOp .eql 23 (.agg #[.int .i64 a0, .int .i64 a1, .int .i64 a2, .int .i64 a3]) (.agg #[.int .i64 b0, .int .i64 b1, .int .i64 b2, .int .i64 b3])).run Try.prog W = .ok (.bool (decide (a0 = b0 ∧ a1 = b1 ∧ a2 = b2 ∧ a3 = b3))) W := by
  obtain ⟨i, hi⟩ := int_info
  have hc : Try.prog.cellsOf 3 = 1 := by kernel_rfl
  have r4 : List.range 4 = [0, 1, 2, 3] := rfl
  have hp0 : ∀ (z0 z1 z2 z3 : Value) (W : World), (part 3 #[z0, z1, z2, z3] 0).run Try.prog W = .ok z0 W := fun _ _ _ _ _ => by kernel_rfl
  have hp1 : ∀ (z0 z1 z2 z3 : Value) (W : World), (part 3 #[z0, z1, z2, z3] 1).run Try.prog W = .ok z1 W := fun _ _ _ _ _ => by kernel_rfl
  have hp2 : ∀ (z0 z1 z2 z3 : Value) (W : World), (part 3 #[z0, z1, z2, z3] 2).run Try.prog W = .ok z2 W := fun _ _ _ _ _ => by kernel_rfl
  have hp3 : ∀ (z0 z1 z2 z3 : Value) (W : World), (part 3 #[z0, z1, z2, z3] 3).run Try.prog W = .ok z3 W := fun _ _ _ _ _ => by kernel_rfl
  rw [run_eql_struct, run_equalIn_array (w := W) 9999 _ _ Try.underlying23 hi, hc, r4]
  simp only [Op.eqItems, Sem.run_bind, Nat.zero_mul, Nat.one_mul, hp0, hp1, hp2, hp3, Result.andThen_ok, Nat.mul_one, run_equalIn_int W _ 3 _ _ _ _ Try.underlying3]
  by_cases e0 : a0 = b0
  · by_cases e1 : a1 = b1
    · by_cases e2 : a2 = b2
      · by_cases e3 : a3 = b3
        · simp [e0, e1, e2, e3, hp1, hp2, hp3, run_equalIn_int W _ 3 _ _ _ _ Try.underlying3]
        · simp [e0, e1, e2, e3, hp1, hp2, hp3, run_equalIn_int W _ 3 _ _ _ _ Try.underlying3]
      · simp [e0, e1, e2, hp1, hp2, hp3, run_equalIn_int W _ 3 _ _ _ _ Try.underlying3]
    · simp [e0, e1, hp1, hp2, hp3, run_equalIn_int W _ 3 _ _ _ _ Try.underlying3]
  · simp [e0, hp1, hp2, hp3, run_equalIn_int W _ 3 _ _ _ _ Try.underlying3]
def sameC (c d : Cmd) : Bool := decide (c.kind = d.kind) && decide (c.who = d.who) && decide (c.nm = d.nm) && decide (c.oth = d.oth) && decide (c.txt = d.txt) && decide (c.word = d.word) && decide (c.n0 = d.n0 ∧ c.n1 = d.n1 ∧ c.n2 = d.n2 ∧ c.n3 = d.n3)
theorem sameC_iff (c d : Cmd) : sameC c d = true ↔ c = d := by
  unfold sameC
  simp only [Bool.and_eq_true, decide_eq_true_eq]
  constructor
  · rintro ⟨⟨⟨⟨⟨⟨h1, h2⟩, h3⟩, h4⟩, h5⟩, h6⟩, h7, h8, h9, h10⟩
    cases c; cases d
    simp_all
  · rintro rfl
    exact ⟨⟨⟨⟨⟨⟨rfl, rfl⟩, rfl⟩, rfl⟩, rfl⟩, rfl⟩, rfl, rfl, rfl, rfl⟩
set_option maxHeartbeats 8000000 in
theorem same_any (c d : Cmd) (v u : Value) (w : World) (hv : CmdAt w c v) (hu : CmdAt w d u) (hn : c.word.length ≤ 9223372036854775807) :
    Calls Try.prog 15 #[v, u] w (Asks (sameC c d) w) := by
  obtain ⟨a, cap, rfl, hs⟩ := hv
  obtain ⟨b, cap', rfl, hk⟩ := hu
  obtain ⟨k1, w1, nm1, o1, t1, l1, p0, p1, p2, p3⟩ := c
  obtain ⟨k2, w2, nm2, o2, t2, l2, q0, q1, q2, q3⟩ := d
  dsimp only at *
  obtain ⟨n, hnn⟩ : ∃ n, n = l1.length := ⟨_, rfl⟩
  obtain ⟨m, hmm⟩ : ∃ m, m = l2.length := ⟨_, rfl⟩
  rw [← hnn] at hs hn ⊢
  rw [← hmm] at hk ⊢
  clear hnn hmm
  obtain ⟨V, hV⟩ : ∃ V, V = (w.alloc (.cells #[.int .i64 k1, .string w1, .string nm1, .string o1, .string t1, .slice a n cap, .int .i64 p0, .int .i64 p1, .int .i64 p2, .int .i64 p3] 28)).alloc (.cells #[.int .i64 k2, .string w2, .string nm2, .string o2, .string t2, .slice b m cap', .int .i64 q0, .int .i64 q1, .int .i64 q2, .int .i64 q3] 29) := ⟨_, rfl⟩
  have hb : Below w.heap.size w V := by rw [hV]; exact ((Below.refl _ w).alloc (Nat.le_refl _) _).alloc (by simp) _
  have hx : V.heap[w.heap.size]? = some (.cells #[.int .i64 k1, .string w1, .string nm1, .string o1, .string t1, .slice a n cap, .int .i64 p0, .int .i64 p1, .int .i64 p2, .int .i64 p3] 28 (0, 0)) := by rw [hV]; exact (heap_alloc_old _ _ (by simp)).trans (heap_alloc_new w _)
  have hy : V.heap[w.heap.size + 1]? = some (.cells #[.int .i64 k2, .string w2, .string nm2, .string o2, .string t2, .slice b m cap', .int .i64 q0, .int .i64 q1, .int .i64 q2, .int .i64 q3] 29 (0, 0)) := by
    rw [hV]; have := heap_alloc_new (w.alloc (.cells #[.int .i64 k1, .string w1, .string nm1, .string o1, .string t1, .slice a n cap, .int .i64 p0, .int .i64 p1, .int .i64 p2, .int .i64 p3] 28)) (.cells #[.int .i64 k2, .string w2, .string nm2, .string o2, .string t2, .slice b m cap', .int .i64 q0, .int .i64 q1, .int .i64 q2, .int .i64 q3] 29); simpa using this
  have HT := Lib.hid (texts_any a b n m cap cap' l1 l2 V (Strs.under hs hb) (Strs.under hk hb) hn)
  obtain ⟨g, hg⟩ : ∃ g, g = decide (l1 = l2) := ⟨_, rfl⟩
  rw [← hg] at HT
  obtain ⟨q, hq⟩ : ∃ q, q = sameC ⟨k1, w1, nm1, o1, t1, l1, p0, p1, p2, p3⟩ ⟨k2, w2, nm2, o2, t2, l2, q0, q1, q2, q3⟩ := ⟨_, rfl⟩
  rw [← hq]
  unfold sameC at hq
  dsimp only at hq
  rw [← hg] at hq
  have HE := Lib.hid (nums_eql p0 p1 p2 p3 q0 q1 q2 q3)
  obtain ⟨z, hz⟩ : ∃ z, z = decide (p0 = q0 ∧ p1 = q1 ∧ p2 = q2 ∧ p3 = q3) := ⟨_, rfl⟩
  rw [← hz] at HE hq
  have HB := Lib.hid hb
  have HV := Lib.hid hV
  have HX := Lib.hid hx
  have HY := Lib.hid hy
  have x0 := cell_of_row _ _ 0 _ _ (0, 0) hx
  have y0 := cell_of_row _ _ 0 _ _ (0, 0) hy
  have x1 := cell_of_row _ _ 1 _ _ (0, 0) hx
  have y1 := cell_of_row _ _ 1 _ _ (0, 0) hy
  have x2 := cell_of_row _ _ 2 _ _ (0, 0) hx
  have y2 := cell_of_row _ _ 2 _ _ (0, 0) hy
  have x3 := cell_of_row _ _ 3 _ _ (0, 0) hx
  have y3 := cell_of_row _ _ 3 _ _ (0, 0) hy
  have x4 := cell_of_row _ _ 4 _ _ (0, 0) hx
  have y4 := cell_of_row _ _ 4 _ _ (0, 0) hy
  have x5 := cell_of_row _ _ 5 _ _ (0, 0) hx
  have y5 := cell_of_row _ _ 5 _ _ (0, 0) hy
  have x6 := cell_of_row _ _ 6 _ _ (0, 0) hx
  have y6 := cell_of_row _ _ 6 _ _ (0, 0) hy
  have x7 := cell_of_row _ _ 7 _ _ (0, 0) hx
  have y7 := cell_of_row _ _ 7 _ _ (0, 0) hy
  have x8 := cell_of_row _ _ 8 _ _ (0, 0) hx
  have y8 := cell_of_row _ _ 8 _ _ (0, 0) hy
  have x9 := cell_of_row _ _ 9 _ _ (0, 0) hx
  have y9 := cell_of_row _ _ 9 _ _ (0, 0) hy
  clear hg hz hb hV hx hy hs hk
  by_cases h0 : k1 = k2
  · have f0 : (k1 == k2) = true := by rw [beq_iff_eq]; exact h0
    rw [decide_eq_true h0] at hq
    clear h0
    by_cases h1 : w1 = w2
    · have f1 : (w1.toList == w2.toList) = true := by rw [toList_beq]; exact decide_eq_true h1
      rw [decide_eq_true h1] at hq
      clear h1
      by_cases h2 : nm1 = nm2
      · have f2 : (nm1.toList == nm2.toList) = true := by rw [toList_beq]; exact decide_eq_true h2
        rw [decide_eq_true h2] at hq
        clear h2
        by_cases h3 : o1 = o2
        · have f3 : (o1.toList == o2.toList) = true := by rw [toList_beq]; exact decide_eq_true h3
          rw [decide_eq_true h3] at hq
          clear h3
          by_cases h4 : t1 = t2
          · have f4 : (t1.toList == t2.toList) = true := by rw [toList_beq]; exact decide_eq_true h4
            rw [decide_eq_true h4] at hq
            clear h4
            cases g with
            | false =>
              simp only [Bool.false_and, Bool.and_false, Bool.true_and] at hq
              have HQ := Lib.hid hq
              clear hq
              go_enter Try.func15, Try.ntmps15
              go_upto_region 1 with fail
              rw [← HV.out]
              go_wp2_with fail
              refine HT.out.mono ?_
              rintro e w9 ⟨rfl, hb9⟩
              have HB9 := Lib.hid hb9
              clear hb9
              go_wp2
              go_ret
              exact ⟨by rw [HQ.out]; rfl, HB.out.trans (HB9.out.mono HB.out.size)⟩
            | true =>
              have HQ := Lib.hid hq
              clear hq
              go_enter Try.func15, Try.ntmps15
              go_upto_region 1 with fail
              rw [← HV.out]
              go_wp2_with fail
              refine HT.out.mono ?_
              rintro e w9 ⟨rfl, hb9⟩
              have HB9 := Lib.hid hb9
              clear x0 x1 x2 x3 x4 x5 x6 x7 x8 x9 y0 y1 y2 y3 y4 y5 y6 y7 y8 y9
              have x6 := cell_of_row _ _ 6 _ _ (0, 0) ((hb9.block _ (Gn.heap_lt HX.out)).trans HX.out)
              have y6 := cell_of_row _ _ 6 _ _ (0, 0) ((hb9.block _ (Gn.heap_lt HY.out)).trans HY.out)
              have x7 := cell_of_row _ _ 7 _ _ (0, 0) ((hb9.block _ (Gn.heap_lt HX.out)).trans HX.out)
              have y7 := cell_of_row _ _ 7 _ _ (0, 0) ((hb9.block _ (Gn.heap_lt HY.out)).trans HY.out)
              have x8 := cell_of_row _ _ 8 _ _ (0, 0) ((hb9.block _ (Gn.heap_lt HX.out)).trans HX.out)
              have y8 := cell_of_row _ _ 8 _ _ (0, 0) ((hb9.block _ (Gn.heap_lt HY.out)).trans HY.out)
              have x9 := cell_of_row _ _ 9 _ _ (0, 0) ((hb9.block _ (Gn.heap_lt HX.out)).trans HX.out)
              have y9 := cell_of_row _ _ 9 _ _ (0, 0) ((hb9.block _ (Gn.heap_lt HY.out)).trans HY.out)
              have hgm : Try.prog.eqGuardType Try.prog.depth 23 = false := by kernel_rfl
              have hee := HE.out
              clear hb9
              go_wp2
              go_ret
              exact ⟨by rw [HQ.out]; cases z <;> rfl, HB.out.trans (HB9.out.mono HB.out.size)⟩
          · have f4 : (t1.toList == t2.toList) = false := by rw [toList_beq]; exact decide_eq_false h4
            rw [decide_eq_false h4] at hq
            simp only [Bool.false_and, Bool.and_false, Bool.true_and] at hq
            clear h4
            have HQ := Lib.hid hq
            clear hq
            go_enter Try.func15, Try.ntmps15
            go_upto_region 1 with fail
            rw [← HV.out]
            go_wp2
            go_ret
            exact ⟨by rw [HQ.out]; rfl, HB.out⟩
        · have f3 : (o1.toList == o2.toList) = false := by rw [toList_beq]; exact decide_eq_false h3
          rw [decide_eq_false h3] at hq
          simp only [Bool.false_and, Bool.and_false, Bool.true_and] at hq
          clear h3
          have HQ := Lib.hid hq
          clear hq
          go_enter Try.func15, Try.ntmps15
          go_upto_region 1 with fail
          rw [← HV.out]
          go_wp2
          go_ret
          exact ⟨by rw [HQ.out]; rfl, HB.out⟩
      · have f2 : (nm1.toList == nm2.toList) = false := by rw [toList_beq]; exact decide_eq_false h2
        rw [decide_eq_false h2] at hq
        simp only [Bool.false_and, Bool.and_false, Bool.true_and] at hq
        clear h2
        have HQ := Lib.hid hq
        clear hq
        go_enter Try.func15, Try.ntmps15
        go_upto_region 1 with fail
        rw [← HV.out]
        go_wp2
        go_ret
        exact ⟨by rw [HQ.out]; rfl, HB.out⟩
    · have f1 : (w1.toList == w2.toList) = false := by rw [toList_beq]; exact decide_eq_false h1
      rw [decide_eq_false h1] at hq
      simp only [Bool.false_and, Bool.and_false, Bool.true_and] at hq
      clear h1
      have HQ := Lib.hid hq
      clear hq
      go_enter Try.func15, Try.ntmps15
      go_upto_region 1 with fail
      rw [← HV.out]
      go_wp2
      go_ret
      exact ⟨by rw [HQ.out]; rfl, HB.out⟩
  · have f0 : (k1 == k2) = false := by rw [beq_eq_false_iff_ne]; exact h0
    rw [decide_eq_false h0] at hq
    simp only [Bool.false_and, Bool.and_false, Bool.true_and] at hq
    clear h0
    have HQ := Lib.hid hq
    clear hq
    go_enter Try.func15, Try.ntmps15
    go_upto_region 1 with fail
    rw [← HV.out]
    go_wp2
    go_ret
    exact ⟨by rw [HQ.out]; rfl, HB.out⟩
end Go.Proofs.Ytbkfbejbloclgaa.Cm
