/-
  Layer 21: Good, the program's, on.
-/
import Derived.Test.YtbkfbejbloclgaaCmB
namespace Go.Proofs.Ytbkfbejbloclgaa.Cm
open Go.RowKit
open Oct (pb bs Strs)
open Lx (goodB)
open Gn (Asks)
set_option maxRecDepth 100000
set_option linter.unusedSimpArgs false
set_option linter.unusedVariables false
set_option maxHeartbeats 8000000 in
theorem good_any (kind : Int) (who nm oth txt : ByteArray) (word : List ByteArray) (n0 n1 n2 n3 : Int) (a : Option Addr) (n cap : Nat) (w : World) (hn : word.length = n) (h : Strs w a n word) (h1 : who.size ≤ 9223372036854775807) (h2 : nm.size ≤ 9223372036854775807) (h3 : oth.size ≤ 9223372036854775807) (h4 : txt.size ≤ 9223372036854775807) (h5 : n ≤ 9223372036854775807) :
    Calls Try.prog 11 #[.agg #[.int .i64 kind, .string who, .string nm, .string oth, .string txt, .slice a n cap, .int .i64 n0, .int .i64 n1, .int .i64 n2, .int .i64 n3]] w (Asks (goodC ⟨kind, who, nm, oth, txt, word, n0, n1, n2, n3⟩) w) := by
  obtain ⟨q, hq⟩ : ∃ q, q = goodC ⟨kind, who, nm, oth, txt, word, n0, n1, n2, n3⟩ := ⟨_, rfl⟩
  rw [← hq]
  have K1 := Lib.hid (Lx.good_any who · h1)
  have K2 := Lib.hid (maybe_any nm h2)
  have K3 := Lib.hid (maybe_any oth h3)
  obtain ⟨V, hV⟩ : ∃ V, V = w.alloc (.cells #[.int .i64 kind, .string who, .string nm, .string oth, .string txt, .slice a n cap, .int .i64 n0, .int .i64 n1, .int .i64 n2, .int .i64 n3] 28) := ⟨_, rfl⟩
  have hb : Below w.heap.size w V := by rw [hV]; exact (Below.refl _ w).alloc (Nat.le_refl _) _
  have hx : V.heap[w.heap.size]? = some (.cells #[.int .i64 kind, .string who, .string nm, .string oth, .string txt, .slice a n cap, .int .i64 n0, .int .i64 n1, .int .i64 n2, .int .i64 n3] 28 (0, 0)) := by rw [hV]; exact heap_alloc_new w _
  have hS := Strs.under h hb
  have x0 := cell_of_row _ _ 0 _ _ (0, 0) hx
  have x1 := cell_of_row _ _ 1 _ _ (0, 0) hx
  have x2 := cell_of_row _ _ 2 _ _ (0, 0) hx
  have x3 := cell_of_row _ _ 3 _ _ (0, 0) hx
  have x4 := cell_of_row _ _ 4 _ _ (0, 0) hx
  have x5 := cell_of_row _ _ 5 _ _ (0, 0) hx
  have x6 := cell_of_row _ _ 6 _ _ (0, 0) hx
  have x7 := cell_of_row _ _ 7 _ _ (0, 0) hx
  have x8 := cell_of_row _ _ 8 _ _ (0, 0) hx
  have x9 := cell_of_row _ _ 9 _ _ (0, 0) hx
  have hsl : ∀ j (h : j < [n0, n1, n2, n3].length), V.cell? ⟨w.heap.size, 6 + j, none⟩ = some (.int .i64 [n0, n1, n2, n3][j]) := fun j h => by
    match j, h with
    | 0, _ => exact x6
    | 1, _ => exact x7
    | 2, _ => exact x8
    | 3, _ => exact x9
  have K6 := Lib.hid (fun (h65 : n ≤ 65536) => hasS a n cap word V hS hn h65)
  have K7 := Lib.hid (hasI w.heap.size 6 4 4 [n0, n1, n2, n3] V hsl rfl (by omega))
  have HQ : q = ((decide (1 ≤ kind) && decide (kind ≤ 18)) && goodB (bs who) && maybeB (bs nm) && maybeB (bs oth) && decide ((txt.size : Int) ≤ 65536) && decide ((n : Int) ≤ 64) && !(word.any wideB) && !([n0, n1, n2, n3].any farB)) := by
    rw [hq]
    unfold goodC longB
    rw [show decide ((txt.size : Int) ≤ 65536) = decide (txt.size ≤ 65536) by rw [decide_eq_decide]; omega, show decide ((n : Int) ≤ 64) = decide (word.length ≤ 64) by rw [decide_eq_decide, hn]; omega]
    simp only [List.any_cons, List.any_nil, Bool.or_false, Bool.or_assoc]
    rfl
  have HB := Lib.hid hb
  have HV := Lib.hid hV
  obtain ⟨g1, hg1⟩ : ∃ g, g = goodB (bs who) := ⟨_, rfl⟩
  obtain ⟨g2, hg2⟩ : ∃ g, g = maybeB (bs nm) := ⟨_, rfl⟩
  obtain ⟨g3, hg3⟩ : ∃ g, g = maybeB (bs oth) := ⟨_, rfl⟩
  obtain ⟨g6, hg6⟩ : ∃ g, g = word.any wideB := ⟨_, rfl⟩
  obtain ⟨g7, hg7⟩ : ∃ g, g = [n0, n1, n2, n3].any farB := ⟨_, rfl⟩
  rw [← hg1] at K1 HQ
  rw [← hg2] at K2 HQ
  rw [← hg3] at K3 HQ
  rw [← hg6] at K6 HQ
  rw [← hg7] at K7 HQ
  clear hg1 hg2 hg3 hg6 hg7 hq hb hV hS h hx hsl hn x6 x7 x8 x9
  by_cases hd0 : (1 : Int) ≤ kind
  · rw [decide_eq_true hd0] at HQ
    by_cases hd1 : kind ≤ 18
    · rw [decide_eq_true hd1] at HQ
      cases g1 with
      | true =>
        cases g2 with
        | true =>
          cases g3 with
          | true =>
            by_cases hd4 : (txt.size : Int) ≤ 65536
            · rw [decide_eq_true hd4] at HQ
              by_cases hd5 : (n : Int) ≤ 64
              · rw [decide_eq_true hd5] at HQ
                cases g6 with
                | false =>
                  cases g7 with
                  | false =>
                    have HQ2 := Lib.hid HQ
                    clear HQ
                    go_enter Try.func11, Try.ntmps11
                    go_upto_region 1 with fail
                    rw [← HV.out]
                    go_wp2_with fail
                    refine (K1.out _).mono ?_
                    rintro e w1 ⟨rfl, rfl⟩
                    go_wp2_with fail
                    refine (K2.out _).mono ?_
                    rintro e w2 ⟨rfl, rfl⟩
                    go_wp2_with fail
                    refine (K3.out _).mono ?_
                    rintro e w3 ⟨rfl, rfl⟩
                    go_wp2_with fail
                    refine (K6.out (by omega)).mono ?_
                    rintro e w6 ⟨rfl, rfl⟩
                    go_wp2_with fail
                    refine K7.out.mono ?_
                    rintro e w7 ⟨rfl, rfl⟩
                    go_wp2
                    go_ret
                    exact ⟨by rw [HQ2.out]; rfl, HB.out⟩
                  | true =>
                    simp only [Bool.false_and, Bool.and_false, Bool.true_and, Bool.not_true, Bool.not_false] at HQ
                    have HQ2 := Lib.hid HQ
                    clear HQ
                    go_enter Try.func11, Try.ntmps11
                    go_upto_region 1 with fail
                    rw [← HV.out]
                    go_wp2_with fail
                    refine (K1.out _).mono ?_
                    rintro e w1 ⟨rfl, rfl⟩
                    go_wp2_with fail
                    refine (K2.out _).mono ?_
                    rintro e w2 ⟨rfl, rfl⟩
                    go_wp2_with fail
                    refine (K3.out _).mono ?_
                    rintro e w3 ⟨rfl, rfl⟩
                    go_wp2_with fail
                    refine (K6.out (by omega)).mono ?_
                    rintro e w6 ⟨rfl, rfl⟩
                    go_wp2_with fail
                    refine K7.out.mono ?_
                    rintro e w7 ⟨rfl, rfl⟩
                    go_wp2
                    go_ret
                    exact ⟨by rw [HQ2.out]; rfl, HB.out⟩
                | true =>
                  simp only [Bool.false_and, Bool.and_false, Bool.true_and, Bool.not_true, Bool.not_false] at HQ
                  have HQ2 := Lib.hid HQ
                  clear HQ
                  go_enter Try.func11, Try.ntmps11
                  go_upto_region 1 with fail
                  rw [← HV.out]
                  go_wp2_with fail
                  refine (K1.out _).mono ?_
                  rintro e w1 ⟨rfl, rfl⟩
                  go_wp2_with fail
                  refine (K2.out _).mono ?_
                  rintro e w2 ⟨rfl, rfl⟩
                  go_wp2_with fail
                  refine (K3.out _).mono ?_
                  rintro e w3 ⟨rfl, rfl⟩
                  go_wp2_with fail
                  refine (K6.out (by omega)).mono ?_
                  rintro e w6 ⟨rfl, rfl⟩
                  go_wp2
                  go_ret
                  exact ⟨by rw [HQ2.out]; rfl, HB.out⟩
              · rw [decide_eq_false hd5] at HQ
                simp only [Bool.false_and, Bool.and_false, Bool.true_and] at HQ
                have hd5' : decide ((n : Int) ≤ 64) = false := decide_eq_false hd5
                have HQ2 := Lib.hid HQ
                clear HQ
                go_enter Try.func11, Try.ntmps11
                go_upto_region 1 with fail
                rw [← HV.out]
                go_wp2_with fail
                refine (K1.out _).mono ?_
                rintro e w1 ⟨rfl, rfl⟩
                go_wp2_with fail
                refine (K2.out _).mono ?_
                rintro e w2 ⟨rfl, rfl⟩
                go_wp2_with fail
                refine (K3.out _).mono ?_
                rintro e w3 ⟨rfl, rfl⟩
                go_wp2
                go_ret
                exact ⟨by rw [HQ2.out]; rfl, HB.out⟩
            · rw [decide_eq_false hd4] at HQ
              simp only [Bool.false_and, Bool.and_false, Bool.true_and] at HQ
              have hd4' : decide ((txt.size : Int) ≤ 65536) = false := decide_eq_false hd4
              have HQ2 := Lib.hid HQ
              clear HQ
              go_enter Try.func11, Try.ntmps11
              go_upto_region 1 with fail
              rw [← HV.out]
              go_wp2_with fail
              refine (K1.out _).mono ?_
              rintro e w1 ⟨rfl, rfl⟩
              go_wp2_with fail
              refine (K2.out _).mono ?_
              rintro e w2 ⟨rfl, rfl⟩
              go_wp2_with fail
              refine (K3.out _).mono ?_
              rintro e w3 ⟨rfl, rfl⟩
              go_wp2
              go_ret
              exact ⟨by rw [HQ2.out]; rfl, HB.out⟩
          | false =>
            simp only [Bool.false_and, Bool.and_false, Bool.true_and, Bool.not_true, Bool.not_false] at HQ
            have HQ2 := Lib.hid HQ
            clear HQ
            go_enter Try.func11, Try.ntmps11
            go_upto_region 1 with fail
            rw [← HV.out]
            go_wp2_with fail
            refine (K1.out _).mono ?_
            rintro e w1 ⟨rfl, rfl⟩
            go_wp2_with fail
            refine (K2.out _).mono ?_
            rintro e w2 ⟨rfl, rfl⟩
            go_wp2_with fail
            refine (K3.out _).mono ?_
            rintro e w3 ⟨rfl, rfl⟩
            go_wp2
            go_ret
            exact ⟨by rw [HQ2.out]; rfl, HB.out⟩
        | false =>
          simp only [Bool.false_and, Bool.and_false, Bool.true_and, Bool.not_true, Bool.not_false] at HQ
          have HQ2 := Lib.hid HQ
          clear HQ
          go_enter Try.func11, Try.ntmps11
          go_upto_region 1 with fail
          rw [← HV.out]
          go_wp2_with fail
          refine (K1.out _).mono ?_
          rintro e w1 ⟨rfl, rfl⟩
          go_wp2_with fail
          refine (K2.out _).mono ?_
          rintro e w2 ⟨rfl, rfl⟩
          go_wp2
          go_ret
          exact ⟨by rw [HQ2.out]; rfl, HB.out⟩
      | false =>
        simp only [Bool.false_and, Bool.and_false, Bool.true_and, Bool.not_true, Bool.not_false] at HQ
        have HQ2 := Lib.hid HQ
        clear HQ
        go_enter Try.func11, Try.ntmps11
        go_upto_region 1 with fail
        rw [← HV.out]
        go_wp2_with fail
        refine (K1.out _).mono ?_
        rintro e w1 ⟨rfl, rfl⟩
        go_wp2
        go_ret
        exact ⟨by rw [HQ2.out]; rfl, HB.out⟩
    · rw [decide_eq_false hd1] at HQ
      simp only [Bool.false_and, Bool.and_false, Bool.true_and] at HQ
      have hd1' : decide (kind ≤ 18) = false := decide_eq_false hd1
      have HQ2 := Lib.hid HQ
      clear HQ
      go_enter Try.func11, Try.ntmps11
      go_upto_region 1 with fail
      rw [← HV.out]
      go_wp2
      go_ret
      exact ⟨by rw [HQ2.out]; rfl, HB.out⟩
  · rw [decide_eq_false hd0] at HQ
    simp only [Bool.false_and, Bool.and_false, Bool.true_and] at HQ
    have hd0' : decide ((1 : Int) ≤ kind) = false := decide_eq_false hd0
    have HQ2 := Lib.hid HQ
    clear HQ
    go_enter Try.func11, Try.ntmps11
    go_upto_region 1 with fail
    rw [← HV.out]
    go_wp2
    go_ret
    exact ⟨by rw [HQ2.out]; rfl, HB.out⟩
end Go.Proofs.Ytbkfbejbloclgaa.Cm
