/-
  Layer 21: Good, the document's.
-/
import Derived.Test.YtbkfbejbloclgaaCmB
namespace Go.Proofs.Ytbkfbejbloclgaa.Cm
open Go.RowKit
open Oct (pb bs Strs)
open Lx (goodB)
open Gn (Asks)
set_option maxRecDepth 100000
set_option linter.unusedSimpArgs false
set_option linter.unusedVariables false
theorem maybe_nil (s : ByteArray) (h : s.toList = []) : maybeB (bs s) = true := by
  have : bs s = [] := by rw [← h, ByteArray.toList_eq]
  rw [this]; rfl
theorem maybe_cons (s : ByteArray) (h : ¬ s.toList = []) : maybeB (bs s) = goodB (bs s) := by
  have : ¬ bs s = [] := fun h0 => h (by rw [ByteArray.toList_eq]; exact h0)
  unfold maybeB
  rw [List.isEmpty_eq_false_iff.2 this, Bool.false_or]
theorem heap_lt' {w : World} {g : Nat} {o : Obj} (h : w.heap[g]? = some o) : g < w.heap.size := Gn.heap_lt h
set_option maxHeartbeats 16000000 in
theorem rgood_any (kind : Int) (who nm oth txt : ByteArray) (word : List ByteArray) (n0 n1 n2 n3 : Int) (a : Option Addr) (n cap : Nat) (w : World) (hn : word.length = n) (h : Strs w a n word) (h1 : who.size ≤ 9223372036854775807) (h2 : nm.size ≤ 9223372036854775807) (h3 : oth.size ≤ 9223372036854775807) (h4 : txt.size ≤ 9223372036854775807) (h5 : n ≤ 9223372036854775807) :
    Calls Try.prog 12 #[.agg #[.int .i64 kind, .string who, .string nm, .string oth, .string txt, .slice a n cap, .int .i64 n0, .int .i64 n1, .int .i64 n2, .int .i64 n3]] w (Asks (goodC ⟨kind, who, nm, oth, txt, word, n0, n1, n2, n3⟩) w) := by
  obtain ⟨q, hq⟩ : ∃ q, q = goodC ⟨kind, who, nm, oth, txt, word, n0, n1, n2, n3⟩ := ⟨_, rfl⟩
  rw [← hq]
  have K1 := Lib.hid (Lx.rgood_any who · h1)
  have K2 := Lib.hid (Lx.rgood_any nm · h2)
  have K3 := Lib.hid (Lx.rgood_any oth · h3)
  obtain ⟨V, hV⟩ : ∃ V, V = w.alloc (.cells #[.int .i64 kind, .string who, .string nm, .string oth, .string txt, .slice a n cap, .int .i64 n0, .int .i64 n1, .int .i64 n2, .int .i64 n3] 29) := ⟨_, rfl⟩
  have hb : Below w.heap.size w V := by rw [hV]; exact (Below.refl _ w).alloc (Nat.le_refl _) _
  have hx : V.heap[w.heap.size]? = some (.cells #[.int .i64 kind, .string who, .string nm, .string oth, .string txt, .slice a n cap, .int .i64 n0, .int .i64 n1, .int .i64 n2, .int .i64 n3] 29 (0, 0)) := by rw [hV]; exact heap_alloc_new w _
  have hS := Strs.under h hb
  have x0 := cell_of_row _ _ 0 _ _ (0, 0) hx
  have x1 := cell_of_row _ _ 1 _ _ (0, 0) hx
  have x2 := cell_of_row _ _ 2 _ _ (0, 0) hx
  have x3 := cell_of_row _ _ 3 _ _ (0, 0) hx
  have x4 := cell_of_row _ _ 4 _ _ (0, 0) hx
  have x5 := cell_of_row _ _ 5 _ _ (0, 0) hx
  have x6 := cell_of_row _ _ 6 _ _ (0, 0) hx
  have x7 := cell_of_row _ _ 7 _ _ (0, 0) hx
  have x8 := cell_of_row _ _ 8 _ _ (0, 0) hx
  have x9 := cell_of_row _ _ 9 _ _ (0, 0) hx
  have hsl : ∀ j (h : j < [n0, n1, n2, n3].length), V.cell? ⟨w.heap.size, 6 + j, none⟩ = some (.int .i64 [n0, n1, n2, n3][j]) := fun j h => by
    match j, h with
    | 0, _ => exact x6
    | 1, _ => exact x7
    | 2, _ => exact x8
    | 3, _ => exact x9
  have HQ : q = ((decide (1 ≤ kind) && decide (kind ≤ 18)) && goodB (bs who) && maybeB (bs nm) && maybeB (bs oth) && decide ((txt.size : Int) ≤ 65536) && decide ((n : Int) ≤ 64) && !(word.any wideB) && !([n0, n1, n2, n3].any farB)) := by
    rw [hq]
    unfold goodC longB
    rw [show decide ((txt.size : Int) ≤ 65536) = decide (txt.size ≤ 65536) by rw [decide_eq_decide]; omega, show decide ((n : Int) ≤ 64) = decide (word.length ≤ 64) by rw [decide_eq_decide, hn]; omega]
    simp only [List.any_cons, List.any_nil, Bool.or_false, Bool.or_assoc]
    rfl
  have HB := Lib.hid hb
  have HV := Lib.hid hV
  have HS := Lib.hid hS
  have HSL := Lib.hid hsl
  have HX0 := Lib.hid hx
  have HL := Lib.hid hn
  have hall0 : ∀ j, j < 0 → ∀ (h : j < word.length), wideB word[j] = false := fun k h => absurd h (by omega)
  have HA0 := Lib.hid hall0
  obtain ⟨g1, hg1⟩ : ∃ g, g = goodB (bs who) := ⟨_, rfl⟩
  rw [← hg1] at K1 HQ
  clear hg1 hq hb hV hS h hx hsl hn x6 x7 x8 x9 hall0
  by_cases hd0 : kind < 1
  · rw [show decide ((1 : Int) ≤ kind) = false from decide_eq_false (by omega)] at HQ
    simp only [Bool.false_and, Bool.and_false, Bool.true_and, Bool.not_true, Bool.not_false, Bool.true_or, Bool.false_or, Bool.or_true] at HQ
    have HQ2 := Lib.hid HQ
    clear HQ
    go_enter Try.func12, Try.ntmps12
    go_upto_region 1 with fail
    rw [← HV.out]
    go_wp2
    go_ret
    exact ⟨by rw [HQ2.out]; rfl, HB.out⟩
  · rw [show decide ((1 : Int) ≤ kind) = true from decide_eq_true (by omega)] at HQ
    have hd0' : decide (kind < 1) = false := decide_eq_false hd0
    by_cases hd1 : 18 < kind
    · rw [show decide (kind ≤ 18) = false from decide_eq_false (by omega)] at HQ
      simp only [Bool.false_and, Bool.and_false, Bool.true_and, Bool.not_true, Bool.not_false, Bool.true_or, Bool.false_or, Bool.or_true] at HQ
      have HQ2 := Lib.hid HQ
      clear HQ
      go_enter Try.func12, Try.ntmps12
      go_upto_region 1 with fail
      rw [← HV.out]
      go_wp2
      go_ret
      exact ⟨by rw [HQ2.out]; rfl, HB.out⟩
    · rw [show decide (kind ≤ 18) = true from decide_eq_true (by omega)] at HQ
      have hd1' : decide (18 < kind) = false := decide_eq_false hd1
      cases g1 with
      | false =>
        simp only [Bool.false_and, Bool.and_false, Bool.true_and, Bool.not_true, Bool.not_false, Bool.true_or, Bool.false_or, Bool.or_true] at HQ
        have HQ2 := Lib.hid HQ
        clear HQ
        go_enter Try.func12, Try.ntmps12
        go_upto_region 1 with fail
        rw [← HV.out]
        go_wp2_with fail
        refine (K1.out _).mono ?_
        rintro e w1 ⟨rfl, rfl⟩
        go_wp2
        go_ret
        exact ⟨by rw [HQ2.out]; rfl, HB.out⟩
      | true =>
        by_cases he2 : nm.toList = []
        · have he2' : nm.toList.isEmpty = true := by rw [he2]; rfl
          have he2'' : (!nm.toList.isEmpty) = false := by rw [he2]; rfl
          rw [maybe_nil nm he2] at HQ
          by_cases he3 : oth.toList = []
          · have he3' : oth.toList.isEmpty = true := by rw [he3]; rfl
            have he3'' : (!oth.toList.isEmpty) = false := by rw [he3]; rfl
            rw [maybe_nil oth he3] at HQ
            by_cases hd4 : 65536 < (txt.size : Int)
            · rw [show decide ((txt.size : Int) ≤ 65536) = false from decide_eq_false (by omega)] at HQ
              simp only [Bool.false_and, Bool.and_false, Bool.true_and, Bool.not_true, Bool.not_false, Bool.true_or, Bool.false_or, Bool.or_true] at HQ
              have HQ2 := Lib.hid HQ
              clear HQ
              go_enter Try.func12, Try.ntmps12
              go_upto_region 1 with fail
              rw [← HV.out]
              go_wp2_with fail
              refine (K1.out _).mono ?_
              rintro e w1 ⟨rfl, rfl⟩
              go_wp2
              go_ret
              exact ⟨by rw [HQ2.out]; rfl, HB.out⟩
            · rw [show decide ((txt.size : Int) ≤ 65536) = true from decide_eq_true (by omega)] at HQ
              have hd4' : decide (65536 < (txt.size : Int)) = false := decide_eq_false hd4
              by_cases hd5 : 64 < (n : Int)
              · rw [show decide ((n : Int) ≤ 64) = false from decide_eq_false (by omega)] at HQ
                simp only [Bool.false_and, Bool.and_false, Bool.true_and, Bool.not_true, Bool.not_false, Bool.true_or, Bool.false_or, Bool.or_true] at HQ
                have HQ2 := Lib.hid HQ
                clear HQ
                go_enter Try.func12, Try.ntmps12
                go_upto_region 1 with fail
                rw [← HV.out]
                go_wp2_with fail
                refine (K1.out _).mono ?_
                rintro e w1 ⟨rfl, rfl⟩
                go_wp2
                go_ret
                exact ⟨by rw [HQ2.out]; rfl, HB.out⟩
              · rw [show decide ((n : Int) ≤ 64) = true from decide_eq_true (by omega)] at HQ
                have hd5' : decide (64 < (n : Int)) = false := decide_eq_false hd5
                have HQ2 := Lib.hid HQ
                clear HQ
                go_enter Try.func12, Try.ntmps12
                go_upto_region 1 with fail
                rw [← HV.out]
                go_wp2_with fail
                refine (K1.out _).mono ?_
                rintro e w1 ⟨rfl, rfl⟩
                go_wp2_with fail
                go_loopw [3] (fun i wr => ∃ k : Nat, i = .int .i64 k ∧ k ≤ n ∧ wr = V ∧ ∀ j, j < k → ∀ (h : j < word.length), wideB word[j] = false) (fun i _ => n - (intOf i).toNat)
                case atStart => exact ⟨0, rfl, Nat.zero_le _, rfl, HA0.out⟩
                case round =>
                  obtain ⟨k, rfl, hk, rfl, hall⟩ := hrel
                  have HALL := Lib.hid hall
                  clear hall
                  by_cases hlt : k < n
                  · have hlt2 : (k : Int) < (n : Int) := by omega
                    have hks : k < word.length := by rw [HL.out]; exact hlt
                    obtain ⟨b, off, rfl, hbb, hc⟩ := Strs.get HS.out k hlt
                    obtain ⟨x, hx⟩ : ∃ x, x = word[k] := ⟨_, rfl⟩
                    rw [← hx] at hc
                    have HX := Lib.hid hx
                    clear hx
                    by_cases hb : (16 : Int) < (x.size : Int)
                    · have HP := Lib.hid (show q = false by
                        rw [HQ2.out, show word.any wideB = true from List.any_eq_true.2 ⟨word[k], List.getElem_mem _, by rw [← HX.out]; exact decide_eq_true (by omega)⟩]
                        simp)
                      clear HQ2
                      go_wp2
                      go_ret
                      exact ⟨by rw [HP.out]; rfl, HB.out⟩
                    · have HN := Lib.hid (show ∀ j, j < k + 1 → ∀ (h : j < word.length), wideB word[j] = false from fun j hj h => by
                        by_cases hjk : j = k
                        · subst hjk; rw [← HX.out]; exact decide_eq_false (by omega)
                        · exact HALL.out j (by omega) h)
                      go_wp2
                      refine ⟨⟨k + 1, by go_num, by omega, by trivial, HN.out⟩, by simp [intOf]; omega⟩
                  · have hke : k = n := by omega
                    subst hke
                    have HQ3 := Lib.hid (show q = ![n0, n1, n2, n3].any farB from by
                      rw [HQ2.out, show word.any wideB = false from by
                        rw [Bool.eq_false_iff]
                        intro h
                        obtain ⟨y, hy, hy2⟩ := List.any_eq_true.1 h
                        obtain ⟨j, hj, rfl⟩ := List.getElem_of_mem hy
                        rw [HALL.out j (by rw [← HL.out]; exact hj) hj] at hy2
                        cases hy2]
                      simp)
                    clear HQ2
                    go_wp2_with fail
                    go_loopw [4] (fun i W => ∃ m : Nat, i = .int .i64 m ∧ m ≤ 4 ∧ Below wr.heap.size wr W ∧ ∀ j, j < m → ∀ (h : j < [n0, n1, n2, n3].length), farB [n0, n1, n2, n3][j] = false) (fun i _ => 4 - (intOf i).toNat)
                    case atStart => exact ⟨0, rfl, Nat.zero_le _, Below.refl _ _, fun j h => absurd h (by omega)⟩
                    case round =>
                      obtain ⟨m, rfl, hm, hbw, hall2⟩ := hrel
                      have HBW := Lib.hid hbw
                      have HALL2 := Lib.hid hall2
                      clear hall2 hbw
                      by_cases hm4 : m < 4
                      · have hlt2 : (m : Int) < 4 := by omega
                        have hms : m < [n0, n1, n2, n3].length := hm4
                        have hc := (HBW.out.cell (p := ⟨w.heap.size, 6 + m, none⟩) (heap_lt' HX0.out)).trans (HSL.out m hms)
                        obtain ⟨x, hx⟩ : ∃ x, x = [n0, n1, n2, n3][m] := ⟨_, rfl⟩
                        rw [← hx] at hc
                        have HX := Lib.hid hx
                        clear hx
                        have HC := Lib.hid (Oct.rput_any x)
                        obtain ⟨s, hs⟩ : ∃ s : ByteArray, s = ⟨(pb x).toArray⟩ := ⟨_, rfl⟩
                        have HC := Lib.hid (show ∀ W : World, Calls Try.prog 35 #[.int .i64 x] W fun e w' => e = .returned (.string s) ∧ Below W.heap.size W w' from fun W => by rw [hs]; exact HC.out W)
                        have hsl : s.toList = pb x := by rw [hs, ByteArray.toList_mk]
                        clear hs
                        cases hb : farB x with
                        | true =>
                          have hpx : s.toList = [] := by rw [hsl]; exact Oct.pb_no x (by unfold farB at hb; unfold Oct.rng; simpa using hb)
                          have hpx2 : s.toList.isEmpty = true := by rw [hpx]; rfl
                          have HP := Lib.hid (show q = false by
                            rw [HQ3.out, show [n0, n1, n2, n3].any farB = true from List.any_eq_true.2 ⟨[n0, n1, n2, n3][m], List.getElem_mem _, by rw [← HX.out]; exact hb⟩]
                            rfl)
                          clear HQ3 hb hsl
                          go_wp2_with fail
                          refine (HC.out _).mono ?_
                          rintro e w9 ⟨rfl, b9⟩
                          have HB9 := Lib.hid (HBW.out.trans (b9.mono HBW.out.size))
                          clear b9
                          go_wp2
                          go_ret
                          exact ⟨by rw [HP.out]; rfl, HB.out.trans (HB9.out.mono HB.out.size)⟩
                        | false =>
                          have hpx0 : ¬ s.toList = [] := by rw [hsl]; exact Oct.pb_ne x (by unfold farB at hb; unfold Oct.rng; simpa using hb)
                          have hpx2 : s.toList.isEmpty = false := by rw [List.isEmpty_eq_false_iff]; exact hpx0
                          have HN := Lib.hid (show ∀ j, j < m + 1 → ∀ (h : j < [n0, n1, n2, n3].length), farB [n0, n1, n2, n3][j] = false from fun j hj h => by
                            by_cases hjk : j = m
                            · subst hjk; rw [← HX.out]; exact hb
                            · exact HALL2.out j (by omega) h)
                          clear hb hsl
                          go_wp2_with fail
                          refine (HC.out _).mono ?_
                          rintro e w9 ⟨rfl, b9⟩
                          have HB9 := Lib.hid (HBW.out.trans (b9.mono HBW.out.size))
                          clear b9
                          go_wp2
                          refine ⟨⟨m + 1, by go_num, by omega, HB9.out, HN.out⟩, by simp [intOf]; omega⟩
                      · have hme : m = 4 := by omega
                        subst hme
                        have HP := Lib.hid (show q = true by
                          rw [HQ3.out, show [n0, n1, n2, n3].any farB = false from by
                            rw [Bool.eq_false_iff]
                            intro h
                            obtain ⟨y, hy, hy2⟩ := List.any_eq_true.1 h
                            obtain ⟨j, hj, rfl⟩ := List.getElem_of_mem hy
                            rw [HALL2.out j (by exact hj) hj] at hy2
                            cases hy2]
                          rfl)
                        clear HQ3
                        go_wp2
                        go_ret
                        exact ⟨by rw [HP.out]; rfl, HB.out.trans (HBW.out.mono HB.out.size)⟩
          · have he3' : oth.toList.isEmpty = false := by rw [List.isEmpty_eq_false_iff]; exact he3
            have he3'' : (!oth.toList.isEmpty) = true := by rw [he3']; rfl
            rw [maybe_cons oth he3] at HQ
            obtain ⟨g3, hg3⟩ : ∃ g, g = goodB (bs oth) := ⟨_, rfl⟩
            rw [← hg3] at K3 HQ
            clear hg3
            cases g3 with
            | false =>
              simp only [Bool.false_and, Bool.and_false, Bool.true_and, Bool.not_true, Bool.not_false, Bool.true_or, Bool.false_or, Bool.or_true] at HQ
              have HQ2 := Lib.hid HQ
              clear HQ
              go_enter Try.func12, Try.ntmps12
              go_upto_region 1 with fail
              rw [← HV.out]
              go_wp2_with fail
              refine (K1.out _).mono ?_
              rintro e w1 ⟨rfl, rfl⟩
              go_wp2_with fail
              refine (K3.out _).mono ?_
              rintro e w3 ⟨rfl, rfl⟩
              go_wp2
              go_ret
              exact ⟨by rw [HQ2.out]; rfl, HB.out⟩
            | true =>
              by_cases hd4 : 65536 < (txt.size : Int)
              · rw [show decide ((txt.size : Int) ≤ 65536) = false from decide_eq_false (by omega)] at HQ
                simp only [Bool.false_and, Bool.and_false, Bool.true_and, Bool.not_true, Bool.not_false, Bool.true_or, Bool.false_or, Bool.or_true] at HQ
                have HQ2 := Lib.hid HQ
                clear HQ
                go_enter Try.func12, Try.ntmps12
                go_upto_region 1 with fail
                rw [← HV.out]
                go_wp2_with fail
                refine (K1.out _).mono ?_
                rintro e w1 ⟨rfl, rfl⟩
                go_wp2_with fail
                refine (K3.out _).mono ?_
                rintro e w3 ⟨rfl, rfl⟩
                go_wp2
                go_ret
                exact ⟨by rw [HQ2.out]; rfl, HB.out⟩
              · rw [show decide ((txt.size : Int) ≤ 65536) = true from decide_eq_true (by omega)] at HQ
                have hd4' : decide (65536 < (txt.size : Int)) = false := decide_eq_false hd4
                by_cases hd5 : 64 < (n : Int)
                · rw [show decide ((n : Int) ≤ 64) = false from decide_eq_false (by omega)] at HQ
                  simp only [Bool.false_and, Bool.and_false, Bool.true_and, Bool.not_true, Bool.not_false, Bool.true_or, Bool.false_or, Bool.or_true] at HQ
                  have HQ2 := Lib.hid HQ
                  clear HQ
                  go_enter Try.func12, Try.ntmps12
                  go_upto_region 1 with fail
                  rw [← HV.out]
                  go_wp2_with fail
                  refine (K1.out _).mono ?_
                  rintro e w1 ⟨rfl, rfl⟩
                  go_wp2_with fail
                  refine (K3.out _).mono ?_
                  rintro e w3 ⟨rfl, rfl⟩
                  go_wp2
                  go_ret
                  exact ⟨by rw [HQ2.out]; rfl, HB.out⟩
                · rw [show decide ((n : Int) ≤ 64) = true from decide_eq_true (by omega)] at HQ
                  have hd5' : decide (64 < (n : Int)) = false := decide_eq_false hd5
                  have HQ2 := Lib.hid HQ
                  clear HQ
                  go_enter Try.func12, Try.ntmps12
                  go_upto_region 1 with fail
                  rw [← HV.out]
                  go_wp2_with fail
                  refine (K1.out _).mono ?_
                  rintro e w1 ⟨rfl, rfl⟩
                  go_wp2_with fail
                  refine (K3.out _).mono ?_
                  rintro e w3 ⟨rfl, rfl⟩
                  go_wp2_with fail
                  go_loopw [3] (fun i wr => ∃ k : Nat, i = .int .i64 k ∧ k ≤ n ∧ wr = V ∧ ∀ j, j < k → ∀ (h : j < word.length), wideB word[j] = false) (fun i _ => n - (intOf i).toNat)
                  case atStart => exact ⟨0, rfl, Nat.zero_le _, rfl, HA0.out⟩
                  case round =>
                    obtain ⟨k, rfl, hk, rfl, hall⟩ := hrel
                    have HALL := Lib.hid hall
                    clear hall
                    by_cases hlt : k < n
                    · have hlt2 : (k : Int) < (n : Int) := by omega
                      have hks : k < word.length := by rw [HL.out]; exact hlt
                      obtain ⟨b, off, rfl, hbb, hc⟩ := Strs.get HS.out k hlt
                      obtain ⟨x, hx⟩ : ∃ x, x = word[k] := ⟨_, rfl⟩
                      rw [← hx] at hc
                      have HX := Lib.hid hx
                      clear hx
                      by_cases hb : (16 : Int) < (x.size : Int)
                      · have HP := Lib.hid (show q = false by
                          rw [HQ2.out, show word.any wideB = true from List.any_eq_true.2 ⟨word[k], List.getElem_mem _, by rw [← HX.out]; exact decide_eq_true (by omega)⟩]
                          simp)
                        clear HQ2
                        go_wp2
                        go_ret
                        exact ⟨by rw [HP.out]; rfl, HB.out⟩
                      · have HN := Lib.hid (show ∀ j, j < k + 1 → ∀ (h : j < word.length), wideB word[j] = false from fun j hj h => by
                          by_cases hjk : j = k
                          · subst hjk; rw [← HX.out]; exact decide_eq_false (by omega)
                          · exact HALL.out j (by omega) h)
                        go_wp2
                        refine ⟨⟨k + 1, by go_num, by omega, by trivial, HN.out⟩, by simp [intOf]; omega⟩
                    · have hke : k = n := by omega
                      subst hke
                      have HQ3 := Lib.hid (show q = ![n0, n1, n2, n3].any farB from by
                        rw [HQ2.out, show word.any wideB = false from by
                          rw [Bool.eq_false_iff]
                          intro h
                          obtain ⟨y, hy, hy2⟩ := List.any_eq_true.1 h
                          obtain ⟨j, hj, rfl⟩ := List.getElem_of_mem hy
                          rw [HALL.out j (by rw [← HL.out]; exact hj) hj] at hy2
                          cases hy2]
                        simp)
                      clear HQ2
                      go_wp2_with fail
                      go_loopw [4] (fun i W => ∃ m : Nat, i = .int .i64 m ∧ m ≤ 4 ∧ Below wr.heap.size wr W ∧ ∀ j, j < m → ∀ (h : j < [n0, n1, n2, n3].length), farB [n0, n1, n2, n3][j] = false) (fun i _ => 4 - (intOf i).toNat)
                      case atStart => exact ⟨0, rfl, Nat.zero_le _, Below.refl _ _, fun j h => absurd h (by omega)⟩
                      case round =>
                        obtain ⟨m, rfl, hm, hbw, hall2⟩ := hrel
                        have HBW := Lib.hid hbw
                        have HALL2 := Lib.hid hall2
                        clear hall2 hbw
                        by_cases hm4 : m < 4
                        · have hlt2 : (m : Int) < 4 := by omega
                          have hms : m < [n0, n1, n2, n3].length := hm4
                          have hc := (HBW.out.cell (p := ⟨w.heap.size, 6 + m, none⟩) (heap_lt' HX0.out)).trans (HSL.out m hms)
                          obtain ⟨x, hx⟩ : ∃ x, x = [n0, n1, n2, n3][m] := ⟨_, rfl⟩
                          rw [← hx] at hc
                          have HX := Lib.hid hx
                          clear hx
                          have HC := Lib.hid (Oct.rput_any x)
                          obtain ⟨s, hs⟩ : ∃ s : ByteArray, s = ⟨(pb x).toArray⟩ := ⟨_, rfl⟩
                          have HC := Lib.hid (show ∀ W : World, Calls Try.prog 35 #[.int .i64 x] W fun e w' => e = .returned (.string s) ∧ Below W.heap.size W w' from fun W => by rw [hs]; exact HC.out W)
                          have hsl : s.toList = pb x := by rw [hs, ByteArray.toList_mk]
                          clear hs
                          cases hb : farB x with
                          | true =>
                            have hpx : s.toList = [] := by rw [hsl]; exact Oct.pb_no x (by unfold farB at hb; unfold Oct.rng; simpa using hb)
                            have hpx2 : s.toList.isEmpty = true := by rw [hpx]; rfl
                            have HP := Lib.hid (show q = false by
                              rw [HQ3.out, show [n0, n1, n2, n3].any farB = true from List.any_eq_true.2 ⟨[n0, n1, n2, n3][m], List.getElem_mem _, by rw [← HX.out]; exact hb⟩]
                              rfl)
                            clear HQ3 hb hsl
                            go_wp2_with fail
                            refine (HC.out _).mono ?_
                            rintro e w9 ⟨rfl, b9⟩
                            have HB9 := Lib.hid (HBW.out.trans (b9.mono HBW.out.size))
                            clear b9
                            go_wp2
                            go_ret
                            exact ⟨by rw [HP.out]; rfl, HB.out.trans (HB9.out.mono HB.out.size)⟩
                          | false =>
                            have hpx0 : ¬ s.toList = [] := by rw [hsl]; exact Oct.pb_ne x (by unfold farB at hb; unfold Oct.rng; simpa using hb)
                            have hpx2 : s.toList.isEmpty = false := by rw [List.isEmpty_eq_false_iff]; exact hpx0
                            have HN := Lib.hid (show ∀ j, j < m + 1 → ∀ (h : j < [n0, n1, n2, n3].length), farB [n0, n1, n2, n3][j] = false from fun j hj h => by
                              by_cases hjk : j = m
                              · subst hjk; rw [← HX.out]; exact hb
                              · exact HALL2.out j (by omega) h)
                            clear hb hsl
                            go_wp2_with fail
                            refine (HC.out _).mono ?_
                            rintro e w9 ⟨rfl, b9⟩
                            have HB9 := Lib.hid (HBW.out.trans (b9.mono HBW.out.size))
                            clear b9
                            go_wp2
                            refine ⟨⟨m + 1, by go_num, by omega, HB9.out, HN.out⟩, by simp [intOf]; omega⟩
                        · have hme : m = 4 := by omega
                          subst hme
                          have HP := Lib.hid (show q = true by
                            rw [HQ3.out, show [n0, n1, n2, n3].any farB = false from by
                              rw [Bool.eq_false_iff]
                              intro h
                              obtain ⟨y, hy, hy2⟩ := List.any_eq_true.1 h
                              obtain ⟨j, hj, rfl⟩ := List.getElem_of_mem hy
                              rw [HALL2.out j (by exact hj) hj] at hy2
                              cases hy2]
                            rfl)
                          clear HQ3
                          go_wp2
                          go_ret
                          exact ⟨by rw [HP.out]; rfl, HB.out.trans (HBW.out.mono HB.out.size)⟩
        · have he2' : nm.toList.isEmpty = false := by rw [List.isEmpty_eq_false_iff]; exact he2
          have he2'' : (!nm.toList.isEmpty) = true := by rw [he2']; rfl
          rw [maybe_cons nm he2] at HQ
          obtain ⟨g2, hg2⟩ : ∃ g, g = goodB (bs nm) := ⟨_, rfl⟩
          rw [← hg2] at K2 HQ
          clear hg2
          cases g2 with
          | false =>
            simp only [Bool.false_and, Bool.and_false, Bool.true_and, Bool.not_true, Bool.not_false, Bool.true_or, Bool.false_or, Bool.or_true] at HQ
            have HQ2 := Lib.hid HQ
            clear HQ
            go_enter Try.func12, Try.ntmps12
            go_upto_region 1 with fail
            rw [← HV.out]
            go_wp2_with fail
            refine (K1.out _).mono ?_
            rintro e w1 ⟨rfl, rfl⟩
            go_wp2_with fail
            refine (K2.out _).mono ?_
            rintro e w2 ⟨rfl, rfl⟩
            go_wp2
            go_ret
            exact ⟨by rw [HQ2.out]; rfl, HB.out⟩
          | true =>
            by_cases he3 : oth.toList = []
            · have he3' : oth.toList.isEmpty = true := by rw [he3]; rfl
              have he3'' : (!oth.toList.isEmpty) = false := by rw [he3]; rfl
              rw [maybe_nil oth he3] at HQ
              by_cases hd4 : 65536 < (txt.size : Int)
              · rw [show decide ((txt.size : Int) ≤ 65536) = false from decide_eq_false (by omega)] at HQ
                simp only [Bool.false_and, Bool.and_false, Bool.true_and, Bool.not_true, Bool.not_false, Bool.true_or, Bool.false_or, Bool.or_true] at HQ
                have HQ2 := Lib.hid HQ
                clear HQ
                go_enter Try.func12, Try.ntmps12
                go_upto_region 1 with fail
                rw [← HV.out]
                go_wp2_with fail
                refine (K1.out _).mono ?_
                rintro e w1 ⟨rfl, rfl⟩
                go_wp2_with fail
                refine (K2.out _).mono ?_
                rintro e w2 ⟨rfl, rfl⟩
                go_wp2
                go_ret
                exact ⟨by rw [HQ2.out]; rfl, HB.out⟩
              · rw [show decide ((txt.size : Int) ≤ 65536) = true from decide_eq_true (by omega)] at HQ
                have hd4' : decide (65536 < (txt.size : Int)) = false := decide_eq_false hd4
                by_cases hd5 : 64 < (n : Int)
                · rw [show decide ((n : Int) ≤ 64) = false from decide_eq_false (by omega)] at HQ
                  simp only [Bool.false_and, Bool.and_false, Bool.true_and, Bool.not_true, Bool.not_false, Bool.true_or, Bool.false_or, Bool.or_true] at HQ
                  have HQ2 := Lib.hid HQ
                  clear HQ
                  go_enter Try.func12, Try.ntmps12
                  go_upto_region 1 with fail
                  rw [← HV.out]
                  go_wp2_with fail
                  refine (K1.out _).mono ?_
                  rintro e w1 ⟨rfl, rfl⟩
                  go_wp2_with fail
                  refine (K2.out _).mono ?_
                  rintro e w2 ⟨rfl, rfl⟩
                  go_wp2
                  go_ret
                  exact ⟨by rw [HQ2.out]; rfl, HB.out⟩
                · rw [show decide ((n : Int) ≤ 64) = true from decide_eq_true (by omega)] at HQ
                  have hd5' : decide (64 < (n : Int)) = false := decide_eq_false hd5
                  have HQ2 := Lib.hid HQ
                  clear HQ
                  go_enter Try.func12, Try.ntmps12
                  go_upto_region 1 with fail
                  rw [← HV.out]
                  go_wp2_with fail
                  refine (K1.out _).mono ?_
                  rintro e w1 ⟨rfl, rfl⟩
                  go_wp2_with fail
                  refine (K2.out _).mono ?_
                  rintro e w2 ⟨rfl, rfl⟩
                  go_wp2_with fail
                  go_loopw [3] (fun i wr => ∃ k : Nat, i = .int .i64 k ∧ k ≤ n ∧ wr = V ∧ ∀ j, j < k → ∀ (h : j < word.length), wideB word[j] = false) (fun i _ => n - (intOf i).toNat)
                  case atStart => exact ⟨0, rfl, Nat.zero_le _, rfl, HA0.out⟩
                  case round =>
                    obtain ⟨k, rfl, hk, rfl, hall⟩ := hrel
                    have HALL := Lib.hid hall
                    clear hall
                    by_cases hlt : k < n
                    · have hlt2 : (k : Int) < (n : Int) := by omega
                      have hks : k < word.length := by rw [HL.out]; exact hlt
                      obtain ⟨b, off, rfl, hbb, hc⟩ := Strs.get HS.out k hlt
                      obtain ⟨x, hx⟩ : ∃ x, x = word[k] := ⟨_, rfl⟩
                      rw [← hx] at hc
                      have HX := Lib.hid hx
                      clear hx
                      by_cases hb : (16 : Int) < (x.size : Int)
                      · have HP := Lib.hid (show q = false by
                          rw [HQ2.out, show word.any wideB = true from List.any_eq_true.2 ⟨word[k], List.getElem_mem _, by rw [← HX.out]; exact decide_eq_true (by omega)⟩]
                          simp)
                        clear HQ2
                        go_wp2
                        go_ret
                        exact ⟨by rw [HP.out]; rfl, HB.out⟩
                      · have HN := Lib.hid (show ∀ j, j < k + 1 → ∀ (h : j < word.length), wideB word[j] = false from fun j hj h => by
                          by_cases hjk : j = k
                          · subst hjk; rw [← HX.out]; exact decide_eq_false (by omega)
                          · exact HALL.out j (by omega) h)
                        go_wp2
                        refine ⟨⟨k + 1, by go_num, by omega, by trivial, HN.out⟩, by simp [intOf]; omega⟩
                    · have hke : k = n := by omega
                      subst hke
                      have HQ3 := Lib.hid (show q = ![n0, n1, n2, n3].any farB from by
                        rw [HQ2.out, show word.any wideB = false from by
                          rw [Bool.eq_false_iff]
                          intro h
                          obtain ⟨y, hy, hy2⟩ := List.any_eq_true.1 h
                          obtain ⟨j, hj, rfl⟩ := List.getElem_of_mem hy
                          rw [HALL.out j (by rw [← HL.out]; exact hj) hj] at hy2
                          cases hy2]
                        simp)
                      clear HQ2
                      go_wp2_with fail
                      go_loopw [4] (fun i W => ∃ m : Nat, i = .int .i64 m ∧ m ≤ 4 ∧ Below wr.heap.size wr W ∧ ∀ j, j < m → ∀ (h : j < [n0, n1, n2, n3].length), farB [n0, n1, n2, n3][j] = false) (fun i _ => 4 - (intOf i).toNat)
                      case atStart => exact ⟨0, rfl, Nat.zero_le _, Below.refl _ _, fun j h => absurd h (by omega)⟩
                      case round =>
                        obtain ⟨m, rfl, hm, hbw, hall2⟩ := hrel
                        have HBW := Lib.hid hbw
                        have HALL2 := Lib.hid hall2
                        clear hall2 hbw
                        by_cases hm4 : m < 4
                        · have hlt2 : (m : Int) < 4 := by omega
                          have hms : m < [n0, n1, n2, n3].length := hm4
                          have hc := (HBW.out.cell (p := ⟨w.heap.size, 6 + m, none⟩) (heap_lt' HX0.out)).trans (HSL.out m hms)
                          obtain ⟨x, hx⟩ : ∃ x, x = [n0, n1, n2, n3][m] := ⟨_, rfl⟩
                          rw [← hx] at hc
                          have HX := Lib.hid hx
                          clear hx
                          have HC := Lib.hid (Oct.rput_any x)
                          obtain ⟨s, hs⟩ : ∃ s : ByteArray, s = ⟨(pb x).toArray⟩ := ⟨_, rfl⟩
                          have HC := Lib.hid (show ∀ W : World, Calls Try.prog 35 #[.int .i64 x] W fun e w' => e = .returned (.string s) ∧ Below W.heap.size W w' from fun W => by rw [hs]; exact HC.out W)
                          have hsl : s.toList = pb x := by rw [hs, ByteArray.toList_mk]
                          clear hs
                          cases hb : farB x with
                          | true =>
                            have hpx : s.toList = [] := by rw [hsl]; exact Oct.pb_no x (by unfold farB at hb; unfold Oct.rng; simpa using hb)
                            have hpx2 : s.toList.isEmpty = true := by rw [hpx]; rfl
                            have HP := Lib.hid (show q = false by
                              rw [HQ3.out, show [n0, n1, n2, n3].any farB = true from List.any_eq_true.2 ⟨[n0, n1, n2, n3][m], List.getElem_mem _, by rw [← HX.out]; exact hb⟩]
                              rfl)
                            clear HQ3 hb hsl
                            go_wp2_with fail
                            refine (HC.out _).mono ?_
                            rintro e w9 ⟨rfl, b9⟩
                            have HB9 := Lib.hid (HBW.out.trans (b9.mono HBW.out.size))
                            clear b9
                            go_wp2
                            go_ret
                            exact ⟨by rw [HP.out]; rfl, HB.out.trans (HB9.out.mono HB.out.size)⟩
                          | false =>
                            have hpx0 : ¬ s.toList = [] := by rw [hsl]; exact Oct.pb_ne x (by unfold farB at hb; unfold Oct.rng; simpa using hb)
                            have hpx2 : s.toList.isEmpty = false := by rw [List.isEmpty_eq_false_iff]; exact hpx0
                            have HN := Lib.hid (show ∀ j, j < m + 1 → ∀ (h : j < [n0, n1, n2, n3].length), farB [n0, n1, n2, n3][j] = false from fun j hj h => by
                              by_cases hjk : j = m
                              · subst hjk; rw [← HX.out]; exact hb
                              · exact HALL2.out j (by omega) h)
                            clear hb hsl
                            go_wp2_with fail
                            refine (HC.out _).mono ?_
                            rintro e w9 ⟨rfl, b9⟩
                            have HB9 := Lib.hid (HBW.out.trans (b9.mono HBW.out.size))
                            clear b9
                            go_wp2
                            refine ⟨⟨m + 1, by go_num, by omega, HB9.out, HN.out⟩, by simp [intOf]; omega⟩
                        · have hme : m = 4 := by omega
                          subst hme
                          have HP := Lib.hid (show q = true by
                            rw [HQ3.out, show [n0, n1, n2, n3].any farB = false from by
                              rw [Bool.eq_false_iff]
                              intro h
                              obtain ⟨y, hy, hy2⟩ := List.any_eq_true.1 h
                              obtain ⟨j, hj, rfl⟩ := List.getElem_of_mem hy
                              rw [HALL2.out j (by exact hj) hj] at hy2
                              cases hy2]
                            rfl)
                          clear HQ3
                          go_wp2
                          go_ret
                          exact ⟨by rw [HP.out]; rfl, HB.out.trans (HBW.out.mono HB.out.size)⟩
            · have he3' : oth.toList.isEmpty = false := by rw [List.isEmpty_eq_false_iff]; exact he3
              have he3'' : (!oth.toList.isEmpty) = true := by rw [he3']; rfl
              rw [maybe_cons oth he3] at HQ
              obtain ⟨g3, hg3⟩ : ∃ g, g = goodB (bs oth) := ⟨_, rfl⟩
              rw [← hg3] at K3 HQ
              clear hg3
              cases g3 with
              | false =>
                simp only [Bool.false_and, Bool.and_false, Bool.true_and, Bool.not_true, Bool.not_false, Bool.true_or, Bool.false_or, Bool.or_true] at HQ
                have HQ2 := Lib.hid HQ
                clear HQ
                go_enter Try.func12, Try.ntmps12
                go_upto_region 1 with fail
                rw [← HV.out]
                go_wp2_with fail
                refine (K1.out _).mono ?_
                rintro e w1 ⟨rfl, rfl⟩
                go_wp2_with fail
                refine (K2.out _).mono ?_
                rintro e w2 ⟨rfl, rfl⟩
                go_wp2_with fail
                refine (K3.out _).mono ?_
                rintro e w3 ⟨rfl, rfl⟩
                go_wp2
                go_ret
                exact ⟨by rw [HQ2.out]; rfl, HB.out⟩
              | true =>
                by_cases hd4 : 65536 < (txt.size : Int)
                · rw [show decide ((txt.size : Int) ≤ 65536) = false from decide_eq_false (by omega)] at HQ
                  simp only [Bool.false_and, Bool.and_false, Bool.true_and, Bool.not_true, Bool.not_false, Bool.true_or, Bool.false_or, Bool.or_true] at HQ
                  have HQ2 := Lib.hid HQ
                  clear HQ
                  go_enter Try.func12, Try.ntmps12
                  go_upto_region 1 with fail
                  rw [← HV.out]
                  go_wp2_with fail
                  refine (K1.out _).mono ?_
                  rintro e w1 ⟨rfl, rfl⟩
                  go_wp2_with fail
                  refine (K2.out _).mono ?_
                  rintro e w2 ⟨rfl, rfl⟩
                  go_wp2_with fail
                  refine (K3.out _).mono ?_
                  rintro e w3 ⟨rfl, rfl⟩
                  go_wp2
                  go_ret
                  exact ⟨by rw [HQ2.out]; rfl, HB.out⟩
                · rw [show decide ((txt.size : Int) ≤ 65536) = true from decide_eq_true (by omega)] at HQ
                  have hd4' : decide (65536 < (txt.size : Int)) = false := decide_eq_false hd4
                  by_cases hd5 : 64 < (n : Int)
                  · rw [show decide ((n : Int) ≤ 64) = false from decide_eq_false (by omega)] at HQ
                    simp only [Bool.false_and, Bool.and_false, Bool.true_and, Bool.not_true, Bool.not_false, Bool.true_or, Bool.false_or, Bool.or_true] at HQ
                    have HQ2 := Lib.hid HQ
                    clear HQ
                    go_enter Try.func12, Try.ntmps12
                    go_upto_region 1 with fail
                    rw [← HV.out]
                    go_wp2_with fail
                    refine (K1.out _).mono ?_
                    rintro e w1 ⟨rfl, rfl⟩
                    go_wp2_with fail
                    refine (K2.out _).mono ?_
                    rintro e w2 ⟨rfl, rfl⟩
                    go_wp2_with fail
                    refine (K3.out _).mono ?_
                    rintro e w3 ⟨rfl, rfl⟩
                    go_wp2
                    go_ret
                    exact ⟨by rw [HQ2.out]; rfl, HB.out⟩
                  · rw [show decide ((n : Int) ≤ 64) = true from decide_eq_true (by omega)] at HQ
                    have hd5' : decide (64 < (n : Int)) = false := decide_eq_false hd5
                    have HQ2 := Lib.hid HQ
                    clear HQ
                    go_enter Try.func12, Try.ntmps12
                    go_upto_region 1 with fail
                    rw [← HV.out]
                    go_wp2_with fail
                    refine (K1.out _).mono ?_
                    rintro e w1 ⟨rfl, rfl⟩
                    go_wp2_with fail
                    refine (K2.out _).mono ?_
                    rintro e w2 ⟨rfl, rfl⟩
                    go_wp2_with fail
                    refine (K3.out _).mono ?_
                    rintro e w3 ⟨rfl, rfl⟩
                    go_wp2_with fail
                    go_loopw [3] (fun i wr => ∃ k : Nat, i = .int .i64 k ∧ k ≤ n ∧ wr = V ∧ ∀ j, j < k → ∀ (h : j < word.length), wideB word[j] = false) (fun i _ => n - (intOf i).toNat)
                    case atStart => exact ⟨0, rfl, Nat.zero_le _, rfl, HA0.out⟩
                    case round =>
                      obtain ⟨k, rfl, hk, rfl, hall⟩ := hrel
                      have HALL := Lib.hid hall
                      clear hall
                      by_cases hlt : k < n
                      · have hlt2 : (k : Int) < (n : Int) := by omega
                        have hks : k < word.length := by rw [HL.out]; exact hlt
                        obtain ⟨b, off, rfl, hbb, hc⟩ := Strs.get HS.out k hlt
                        obtain ⟨x, hx⟩ : ∃ x, x = word[k] := ⟨_, rfl⟩
                        rw [← hx] at hc
                        have HX := Lib.hid hx
                        clear hx
                        by_cases hb : (16 : Int) < (x.size : Int)
                        · have HP := Lib.hid (show q = false by
                            rw [HQ2.out, show word.any wideB = true from List.any_eq_true.2 ⟨word[k], List.getElem_mem _, by rw [← HX.out]; exact decide_eq_true (by omega)⟩]
                            simp)
                          clear HQ2
                          go_wp2
                          go_ret
                          exact ⟨by rw [HP.out]; rfl, HB.out⟩
                        · have HN := Lib.hid (show ∀ j, j < k + 1 → ∀ (h : j < word.length), wideB word[j] = false from fun j hj h => by
                            by_cases hjk : j = k
                            · subst hjk; rw [← HX.out]; exact decide_eq_false (by omega)
                            · exact HALL.out j (by omega) h)
                          go_wp2
                          refine ⟨⟨k + 1, by go_num, by omega, by trivial, HN.out⟩, by simp [intOf]; omega⟩
                      · have hke : k = n := by omega
                        subst hke
                        have HQ3 := Lib.hid (show q = ![n0, n1, n2, n3].any farB from by
                          rw [HQ2.out, show word.any wideB = false from by
                            rw [Bool.eq_false_iff]
                            intro h
                            obtain ⟨y, hy, hy2⟩ := List.any_eq_true.1 h
                            obtain ⟨j, hj, rfl⟩ := List.getElem_of_mem hy
                            rw [HALL.out j (by rw [← HL.out]; exact hj) hj] at hy2
                            cases hy2]
                          simp)
                        clear HQ2
                        go_wp2_with fail
                        go_loopw [4] (fun i W => ∃ m : Nat, i = .int .i64 m ∧ m ≤ 4 ∧ Below wr.heap.size wr W ∧ ∀ j, j < m → ∀ (h : j < [n0, n1, n2, n3].length), farB [n0, n1, n2, n3][j] = false) (fun i _ => 4 - (intOf i).toNat)
                        case atStart => exact ⟨0, rfl, Nat.zero_le _, Below.refl _ _, fun j h => absurd h (by omega)⟩
                        case round =>
                          obtain ⟨m, rfl, hm, hbw, hall2⟩ := hrel
                          have HBW := Lib.hid hbw
                          have HALL2 := Lib.hid hall2
                          clear hall2 hbw
                          by_cases hm4 : m < 4
                          · have hlt2 : (m : Int) < 4 := by omega
                            have hms : m < [n0, n1, n2, n3].length := hm4
                            have hc := (HBW.out.cell (p := ⟨w.heap.size, 6 + m, none⟩) (heap_lt' HX0.out)).trans (HSL.out m hms)
                            obtain ⟨x, hx⟩ : ∃ x, x = [n0, n1, n2, n3][m] := ⟨_, rfl⟩
                            rw [← hx] at hc
                            have HX := Lib.hid hx
                            clear hx
                            have HC := Lib.hid (Oct.rput_any x)
                            obtain ⟨s, hs⟩ : ∃ s : ByteArray, s = ⟨(pb x).toArray⟩ := ⟨_, rfl⟩
                            have HC := Lib.hid (show ∀ W : World, Calls Try.prog 35 #[.int .i64 x] W fun e w' => e = .returned (.string s) ∧ Below W.heap.size W w' from fun W => by rw [hs]; exact HC.out W)
                            have hsl : s.toList = pb x := by rw [hs, ByteArray.toList_mk]
                            clear hs
                            cases hb : farB x with
                            | true =>
                              have hpx : s.toList = [] := by rw [hsl]; exact Oct.pb_no x (by unfold farB at hb; unfold Oct.rng; simpa using hb)
                              have hpx2 : s.toList.isEmpty = true := by rw [hpx]; rfl
                              have HP := Lib.hid (show q = false by
                                rw [HQ3.out, show [n0, n1, n2, n3].any farB = true from List.any_eq_true.2 ⟨[n0, n1, n2, n3][m], List.getElem_mem _, by rw [← HX.out]; exact hb⟩]
                                rfl)
                              clear HQ3 hb hsl
                              go_wp2_with fail
                              refine (HC.out _).mono ?_
                              rintro e w9 ⟨rfl, b9⟩
                              have HB9 := Lib.hid (HBW.out.trans (b9.mono HBW.out.size))
                              clear b9
                              go_wp2
                              go_ret
                              exact ⟨by rw [HP.out]; rfl, HB.out.trans (HB9.out.mono HB.out.size)⟩
                            | false =>
                              have hpx0 : ¬ s.toList = [] := by rw [hsl]; exact Oct.pb_ne x (by unfold farB at hb; unfold Oct.rng; simpa using hb)
                              have hpx2 : s.toList.isEmpty = false := by rw [List.isEmpty_eq_false_iff]; exact hpx0
                              have HN := Lib.hid (show ∀ j, j < m + 1 → ∀ (h : j < [n0, n1, n2, n3].length), farB [n0, n1, n2, n3][j] = false from fun j hj h => by
                                by_cases hjk : j = m
                                · subst hjk; rw [← HX.out]; exact hb
                                · exact HALL2.out j (by omega) h)
                              clear hb hsl
                              go_wp2_with fail
                              refine (HC.out _).mono ?_
                              rintro e w9 ⟨rfl, b9⟩
                              have HB9 := Lib.hid (HBW.out.trans (b9.mono HBW.out.size))
                              clear b9
                              go_wp2
                              refine ⟨⟨m + 1, by go_num, by omega, HB9.out, HN.out⟩, by simp [intOf]; omega⟩
                          · have hme : m = 4 := by omega
                            subst hme
                            have HP := Lib.hid (show q = true by
                              rw [HQ3.out, show [n0, n1, n2, n3].any farB = false from by
                                rw [Bool.eq_false_iff]
                                intro h
                                obtain ⟨y, hy, hy2⟩ := List.any_eq_true.1 h
                                obtain ⟨j, hj, rfl⟩ := List.getElem_of_mem hy
                                rw [HALL2.out j (by exact hj) hj] at hy2
                                cases hy2]
                              rfl)
                            clear HQ3
                            go_wp2
                            go_ret
                            exact ⟨by rw [HP.out]; rfl, HB.out.trans (HBW.out.mono HB.out.size)⟩
end Go.Proofs.Ytbkfbejbloclgaa.Cm
