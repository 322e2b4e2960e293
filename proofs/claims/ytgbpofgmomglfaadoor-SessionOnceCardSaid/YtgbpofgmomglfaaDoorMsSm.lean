/-
  Layer 23: the small functions of package message.
-/
import Derived.Test.YtgbpofgmomglfaaDoorMsA
namespace Go.Proofs.YtgbpofgmomglfaaDoor.Ms
open Gn (Asks)
open Go.RowKit
set_option maxRecDepth 100000
set_option linter.unusedSimpArgs false
set_option linter.unusedVariables false

def Says (b : Bool) (w : World) (e : Ending) (w' : World) : Prop := e = .returned (.bool b) ∧ Below w.heap.size w w'
theorem group_any (r : Int) (w : World) : Calls Tryd.prog 32 #[.int .i64 r] w (Says (groupB r) w) := by
  obtain ⟨g, hg⟩ : ∃ g, g = groupB r := ⟨_, rfl⟩
  rw [← hg]
  unfold groupB at hg
  by_cases h3 : r = 3
  · subst h3
    have hg2 : g = true := by rw [hg]; rfl
    clear hg
    subst hg2
    go_enter Tryd.func32, Tryd.ntmps32
    go_wp2
    go_ret
    exact ⟨rfl, Below.refl _ _⟩
  · have h3' : (r == 3) = false := by simpa using h3
    by_cases h5 : r = 5
    · subst h5
      have hg2 : g = true := by rw [hg]; rfl
      clear hg
      subst hg2
      go_enter Tryd.func32, Tryd.ntmps32
      go_wp2
      go_ret
      exact ⟨rfl, Below.refl _ _⟩
    · have h5' : (r == 5) = false := by simpa using h5
      by_cases h7 : r = 7
      · subst h7
        have hg2 : g = true := by rw [hg]; rfl
        clear hg
        subst hg2
        go_enter Tryd.func32, Tryd.ntmps32
        go_wp2
        go_ret
        exact ⟨rfl, Below.refl _ _⟩
      · have h7' : (r == 7) = false := by simpa using h7
        have hg2 : g = false := by rw [hg, decide_eq_false h3, decide_eq_false h5, decide_eq_false h7]; rfl
        clear hg
        subst hg2
        go_enter Tryd.func32, Tryd.ntmps32
        go_wp2
        go_ret
        exact ⟨rfl, Below.refl _ _⟩
theorem known_any (r : Int) (w : World) : Calls Tryd.prog 43 #[.int .i64 r] w (Says (knownB r) w) := by
  by_cases h1 : 1 ≤ r
  · by_cases h2 : r ≤ 12
    · have hg : knownB r = true := by unfold knownB; rw [decide_eq_true h1, decide_eq_true h2]; rfl
      rw [hg]
      go_enter Tryd.func43, Tryd.ntmps43
      go_wp2
      go_ret
      exact ⟨rfl, Below.refl _ _⟩
    · have hg : knownB r = false := by unfold knownB; rw [decide_eq_false h2, Bool.and_false]
      rw [hg]
      go_enter Tryd.func43, Tryd.ntmps43
      go_wp2
      go_ret
      exact ⟨rfl, Below.refl _ _⟩
  · have hg : knownB r = false := by unfold knownB; rw [decide_eq_false h1, Bool.false_and]
    rw [hg]
    go_enter Tryd.func43, Tryd.ntmps43
    go_wp2
    go_ret
    exact ⟨rfl, Below.refl _ _⟩
theorem badn_any (r : Int) (w : World) : Calls Tryd.prog 47 #[.int .i64 r] w (Says (badN r) w) := by
  by_cases h1 : r < 0
  · have hg : badN r = true := by unfold badN; rw [decide_eq_true h1]; rfl
    rw [hg]
    go_enter Tryd.func47, Tryd.ntmps47
    go_wp2
    go_ret
    exact ⟨rfl, Below.refl _ _⟩
  · by_cases h2 : 9007199254740992 < r
    · have hg : badN r = true := by unfold badN; rw [decide_eq_true h2, Bool.or_true]
      rw [hg]
      go_enter Tryd.func47, Tryd.ntmps47
      go_wp2
      go_ret
      exact ⟨rfl, Below.refl _ _⟩
    · have hg : badN r = false := by unfold badN; rw [decide_eq_false h1, decide_eq_false h2]; rfl
      rw [hg]
      go_enter Tryd.func47, Tryd.ntmps47
      go_wp2
      go_ret
      exact ⟨rfl, Below.refl _ _⟩
theorem nonz_any (r : Int) (w : World) : Calls Tryd.prog 64 #[.int .i64 r] w (Says (nonz r) w) := by
  show Calls _ _ _ _ (Says (decide (r ≠ 0)) w)
  by_cases h1 : r = 0
  · subst h1
    go_enter Tryd.func64, Tryd.ntmps64
    go_wp2
    go_ret
    exact ⟨rfl, Below.refl _ _⟩
  · have h1' : (r == 0) = false := by simpa using h1
    have h2 : (r != 0) = true := by simp [h1]
    rw [decide_eq_true h1]
    go_enter Tryd.func64, Tryd.ntmps64
    go_wp2
    go_ret
    exact ⟨rfl, Below.refl _ _⟩
set_option maxHeartbeats 4000000 in
theorem bade_any (c k : Int) (t : ByteArray) (w : World) : Calls Tryd.prog 52 #[.agg #[.int .i64 c, .int .i64 k, .string t]] w (Says (badE ⟨c, k, t⟩) w) := by
  obtain ⟨q, hq⟩ : ∃ q, q = badE ⟨c, k, t⟩ := ⟨_, rfl⟩
  rw [← hq]
  unfold badE at hq
  dsimp only at hq
  obtain ⟨b1, hb1⟩ : ∃ b, b = badN c := ⟨_, rfl⟩
  obtain ⟨b2, hb2⟩ : ∃ b, b = badN k := ⟨_, rfl⟩
  rw [← hb1, ← hb2] at hq
  have HC := Lib.hid (fun w => show Calls Tryd.prog 47 #[.int .i64 c] w (Says b1 w) by rw [hb1]; exact badn_any c w)
  have HK := Lib.hid (fun w => show Calls Tryd.prog 47 #[.int .i64 k] w (Says b2 w) by rw [hb2]; exact badn_any k w)
  obtain ⟨V, hV⟩ : ∃ V, V = w.alloc (.cells #[.int .i64 c, .int .i64 k, .string t] 100) := ⟨_, rfl⟩
  have hb : Below w.heap.size w V := by rw [hV]; exact (Below.refl _ w).alloc (Nat.le_refl _) _
  have hx : V.heap[w.heap.size]? = some (.cells #[.int .i64 c, .int .i64 k, .string t] 100 (0, 0)) := by rw [hV]; exact heap_alloc_new w _
  have x0 := cell_of_row _ _ 0 _ _ (0, 0) hx
  have x1 := cell_of_row _ _ 1 _ _ (0, 0) hx
  have x2 := cell_of_row _ _ 2 _ _ (0, 0) hx
  have HV := Lib.hid hV
  have HB := Lib.hid hb
  have HX := Lib.hid hx
  have HQ := Lib.hid hq
  clear hV hb hx hq hb1 hb2
  cases b1 with
  | true =>
    have hqt : q = true := by rw [HQ.out]; simp only [Bool.true_or]
    clear HQ
    subst hqt
    go_enter Tryd.func52, Tryd.ntmps52
    go_upto_region 1 with fail
    rw [← HV.out]
    go_wp2_with fail
    refine (HC.out V).mono ?_
    rintro e w1 ⟨rfl, b1⟩
    have HB1 := Lib.hid (HB.out.trans (b1.mono HB.out.size))
    go_wp2
    go_ret
    exact ⟨rfl, HB1.out⟩
  | false =>
    by_cases h3 : 3 ≤ c
    · have hqt : q = true := by rw [HQ.out, decide_eq_true h3]; simp only [Bool.true_or, Bool.or_true]
      clear HQ
      subst hqt
      go_enter Tryd.func52, Tryd.ntmps52
      go_upto_region 1 with fail
      rw [← HV.out]
      go_wp2_with fail
      refine (HC.out V).mono ?_
      rintro e w1 ⟨rfl, b1⟩
      have HB1 := Lib.hid (HB.out.trans (b1.mono HB.out.size))
      have x0 := (b1.cell (p := ⟨w.heap.size, 0, none⟩) (Gn.heap_lt HX.out)).trans x0
      have x1 := (b1.cell (p := ⟨w.heap.size, 1, none⟩) (Gn.heap_lt HX.out)).trans x1
      have x2 := (b1.cell (p := ⟨w.heap.size, 2, none⟩) (Gn.heap_lt HX.out)).trans x2
      have HX1 := Lib.hid ((b1.block _ (Gn.heap_lt HX.out)).trans HX.out)
      clear b1
      go_wp2
      go_ret
      exact ⟨rfl, HB1.out⟩
    · cases b2 with
      | true =>
        have hqt : q = true := by rw [HQ.out]; simp only [Bool.true_or, Bool.or_true]
        clear HQ
        subst hqt
        go_enter Tryd.func52, Tryd.ntmps52
        go_upto_region 1 with fail
        rw [← HV.out]
        go_wp2_with fail
        refine (HC.out V).mono ?_
        rintro e w1 ⟨rfl, b1⟩
        have HB1 := Lib.hid (HB.out.trans (b1.mono HB.out.size))
        have x0 := (b1.cell (p := ⟨w.heap.size, 0, none⟩) (Gn.heap_lt HX.out)).trans x0
        have x1 := (b1.cell (p := ⟨w.heap.size, 1, none⟩) (Gn.heap_lt HX.out)).trans x1
        have x2 := (b1.cell (p := ⟨w.heap.size, 2, none⟩) (Gn.heap_lt HX.out)).trans x2
        have HX1 := Lib.hid ((b1.block _ (Gn.heap_lt HX.out)).trans HX.out)
        clear b1
        go_wp2_with fail
        refine (HK.out _).mono ?_
        rintro e w2 ⟨rfl, b2⟩
        have HB2 := Lib.hid (HB1.out.trans (b2.mono HB1.out.size))
        go_wp2
        go_ret
        exact ⟨rfl, HB2.out⟩
      | false =>
        by_cases h0 : k = 0
        · have hqt : q = true := by rw [HQ.out, decide_eq_true h0]; simp only [Bool.true_or, Bool.or_true]
          clear HQ
          subst hqt h0
          go_enter Tryd.func52, Tryd.ntmps52
          go_upto_region 1 with fail
          rw [← HV.out]
          go_wp2_with fail
          refine (HC.out V).mono ?_
          rintro e w1 ⟨rfl, b1⟩
          have HB1 := Lib.hid (HB.out.trans (b1.mono HB.out.size))
          have x0 := (b1.cell (p := ⟨w.heap.size, 0, none⟩) (Gn.heap_lt HX.out)).trans x0
          have x1 := (b1.cell (p := ⟨w.heap.size, 1, none⟩) (Gn.heap_lt HX.out)).trans x1
          have x2 := (b1.cell (p := ⟨w.heap.size, 2, none⟩) (Gn.heap_lt HX.out)).trans x2
          have HX1 := Lib.hid ((b1.block _ (Gn.heap_lt HX.out)).trans HX.out)
          clear b1
          go_wp2_with fail
          refine (HK.out _).mono ?_
          rintro e w2 ⟨rfl, b2⟩
          have HB2 := Lib.hid (HB1.out.trans (b2.mono HB1.out.size))
          have x1 := (b2.cell (p := ⟨w.heap.size, 1, none⟩) (Gn.heap_lt HX1.out)).trans x1
          clear b2
          go_wp2
          go_ret
          exact ⟨rfl, HB2.out⟩
        · have h0' : (k == 0) = false := by simpa using h0
          by_cases h8 : (8192 : Int) < (t.size : Int)
          · have hqt : q = true := by rw [HQ.out, decide_eq_true (show 8192 < t.size by omega)]; simp only [Bool.true_or, Bool.or_true]
            clear HQ
            subst hqt
            go_enter Tryd.func52, Tryd.ntmps52
            go_upto_region 1 with fail
            rw [← HV.out]
            go_wp2_with fail
            refine (HC.out V).mono ?_
            rintro e w1 ⟨rfl, b1⟩
            have HB1 := Lib.hid (HB.out.trans (b1.mono HB.out.size))
            have x0 := (b1.cell (p := ⟨w.heap.size, 0, none⟩) (Gn.heap_lt HX.out)).trans x0
            have x1 := (b1.cell (p := ⟨w.heap.size, 1, none⟩) (Gn.heap_lt HX.out)).trans x1
            have x2 := (b1.cell (p := ⟨w.heap.size, 2, none⟩) (Gn.heap_lt HX.out)).trans x2
            have HX1 := Lib.hid ((b1.block _ (Gn.heap_lt HX.out)).trans HX.out)
            clear b1
            go_wp2_with fail
            refine (HK.out _).mono ?_
            rintro e w2 ⟨rfl, b2⟩
            have HB2 := Lib.hid (HB1.out.trans (b2.mono HB1.out.size))
            have x1 := (b2.cell (p := ⟨w.heap.size, 1, none⟩) (Gn.heap_lt HX1.out)).trans x1
            have x2 := (b2.cell (p := ⟨w.heap.size, 2, none⟩) (Gn.heap_lt HX1.out)).trans x2
            clear b2
            go_wp2
            go_ret
            exact ⟨rfl, HB2.out⟩
          · have hqt : q = false := by rw [HQ.out, decide_eq_false (show ¬ 8192 < t.size by omega), decide_eq_false h3, decide_eq_false h0]; rfl
            clear HQ
            subst hqt
            go_enter Tryd.func52, Tryd.ntmps52
            go_upto_region 1 with fail
            rw [← HV.out]
            go_wp2_with fail
            refine (HC.out V).mono ?_
            rintro e w1 ⟨rfl, b1⟩
            have HB1 := Lib.hid (HB.out.trans (b1.mono HB.out.size))
            have x0 := (b1.cell (p := ⟨w.heap.size, 0, none⟩) (Gn.heap_lt HX.out)).trans x0
            have x1 := (b1.cell (p := ⟨w.heap.size, 1, none⟩) (Gn.heap_lt HX.out)).trans x1
            have x2 := (b1.cell (p := ⟨w.heap.size, 2, none⟩) (Gn.heap_lt HX.out)).trans x2
            have HX1 := Lib.hid ((b1.block _ (Gn.heap_lt HX.out)).trans HX.out)
            clear b1
            go_wp2_with fail
            refine (HK.out _).mono ?_
            rintro e w2 ⟨rfl, b2⟩
            have HB2 := Lib.hid (HB1.out.trans (b2.mono HB1.out.size))
            have x1 := (b2.cell (p := ⟨w.heap.size, 1, none⟩) (Gn.heap_lt HX1.out)).trans x1
            have x2 := (b2.cell (p := ⟨w.heap.size, 2, none⟩) (Gn.heap_lt HX1.out)).trans x2
            clear b2
            go_wp2
            go_ret
            refine ⟨?_, HB2.out⟩
            show Ending.returned (.bool (decide (3 ≤ c) || decide ((8192 : Int) < (t.size : Int)))) = _
            rw [decide_eq_false (show ¬ (3 : Int) ≤ c by omega), decide_eq_false (show ¬ (8192 : Int) < (t.size : Int) by omega)]
            rfl
set_option maxHeartbeats 4000000 in
theorem bad_ints (l : List Int) (a : Option Addr) (n cap : Nat) (w : World) (h : Ints w a n l) (hn : n ≤ 9223372036854775807) :
    Calls Tryd.prog 45 #[.slice a n cap, .func (.func 47) #[] #[]] w (Says (l.any badN) w) := by
  have HI : Calls Tryd.prog 65 #[.slice a n cap, .func (.func 47) #[] #[]] w fun e w' => ∃ r : Int, e = .returned (.int .i64 r) ∧ Below w.heap.size w w' ∧ decide (0 ≤ r) = l.any badN := by
    have HL := Lib.hid h.1
    have HR := Lib.hid h
    have HA0 := Lib.hid (show ∀ j, j < 0 → ∀ (h : j < l.length), badN l[j] = false from fun k h => absurd h (by omega))
    clear h
    go_enter Tryd.func65, Tryd.ntmps65
    go_upto_block 0 with fail
    go_wp2_with fail
    go_loopw [8] (fun i wr => ∃ k : Nat, i = .int .i64 k ∧ k ≤ n ∧ Below w.heap.size w wr ∧ ∀ j, j < k → ∀ (h : j < l.length), badN l[j] = false) (fun i _ => n - (intOf i).toNat)
    case atStart => exact ⟨0, rfl, Nat.zero_le _, Below.refl _ _, HA0.out⟩
    case round =>
      obtain ⟨k, rfl, hk, hb, hall⟩ := hrel
      have HB := Lib.hid hb
      have HALL := Lib.hid hall
      clear hb hall
      by_cases hlt : k < n
      · have hlt2 : (k : Int) < (n : Int) := by omega
        have hks : k < l.length := by rw [HL.out]; exact hlt
        obtain ⟨x, hx⟩ : ∃ x, x = l[k] := ⟨_, rfl⟩
        obtain ⟨b, off, rfl, hbb, hc⟩ := (Ints.under HR.out HB.out).get k hlt
        rw [← hx] at hc
        have HXX := Lib.hid hx
        have HP := Lib.hid (fun w => badn_any x w)
        obtain ⟨y, hy⟩ : ∃ y, y = badN x := ⟨_, rfl⟩
        rw [← hy] at HP
        have HY := Lib.hid hy
        clear hy hx
        go_wp2_with fail
        refine (HP.out _).mono ?_
        rintro e w2 ⟨rfl, b2⟩
        have HB2 := Lib.hid (HB.out.trans (b2.mono HB.out.size))
        clear b2
        cases y with
        | true =>
          have HT := Lib.hid (show l.any badN = true from List.any_eq_true.2 ⟨l[k], List.getElem_mem _, by rw [← HXX.out, ← HY.out]⟩)
          go_wp2
          go_ret
          exact ⟨k, rfl, HB2.out, by rw [HT.out]; exact decide_eq_true (by omega)⟩
        | false =>
          have HN := Lib.hid (show ∀ j, j < k + 1 → ∀ (h : j < l.length), badN l[j] = false from fun j hj h => by
            by_cases hjk : j = k
            · subst hjk; rw [← HXX.out, ← HY.out]
            · exact HALL.out j (by omega) h)
          go_wp2
          refine ⟨⟨k + 1, by go_num, by omega, HB2.out, HN.out⟩, by simp [intOf]; omega⟩
      · have hke : k = n := by omega
        subst hke
        have HP := Lib.hid (show l.any badN = false from by
          rw [Bool.eq_false_iff]
          intro h
          obtain ⟨y, hy, hy2⟩ := List.any_eq_true.1 h
          obtain ⟨j, hj, rfl⟩ := List.getElem_of_mem hy
          rw [HALL.out j (by rw [← HL.out]; exact hj) hj] at hy2
          cases hy2)
        go_wp2
        go_ret
        exact ⟨-1, rfl, HB.out, by rw [HP.out]; rfl⟩
  have HH := Lib.hid HI
  clear HI h
  go_enter Tryd.func45, Tryd.ntmps45
  go_wp2_with fail
  refine HH.out.mono ?_
  rintro e w2 ⟨r, rfl, hb, hd⟩
  have HB := Lib.hid hb
  have HD := Lib.hid hd
  clear hb hd
  go_wp2_with fail
  go_ret
  refine ⟨?_, HB.out⟩
  rw [← HD.out]
  rfl
set_option maxHeartbeats 4000000 in
theorem nonz_ints (l : List Int) (a : Option Addr) (n cap : Nat) (w : World) (h : Ints w a n l) (hn : n ≤ 9223372036854775807) :
    Calls Tryd.prog 45 #[.slice a n cap, .func (.func 64) #[] #[]] w (Says (l.any nonz) w) := by
  have HI : Calls Tryd.prog 65 #[.slice a n cap, .func (.func 64) #[] #[]] w fun e w' => ∃ r : Int, e = .returned (.int .i64 r) ∧ Below w.heap.size w w' ∧ decide (0 ≤ r) = l.any nonz := by
    have HL := Lib.hid h.1
    have HR := Lib.hid h
    have HA0 := Lib.hid (show ∀ j, j < 0 → ∀ (h : j < l.length), nonz l[j] = false from fun k h => absurd h (by omega))
    clear h
    go_enter Tryd.func65, Tryd.ntmps65
    go_upto_block 0 with fail
    go_wp2_with fail
    go_loopw [8] (fun i wr => ∃ k : Nat, i = .int .i64 k ∧ k ≤ n ∧ Below w.heap.size w wr ∧ ∀ j, j < k → ∀ (h : j < l.length), nonz l[j] = false) (fun i _ => n - (intOf i).toNat)
    case atStart => exact ⟨0, rfl, Nat.zero_le _, Below.refl _ _, HA0.out⟩
    case round =>
      obtain ⟨k, rfl, hk, hb, hall⟩ := hrel
      have HB := Lib.hid hb
      have HALL := Lib.hid hall
      clear hb hall
      by_cases hlt : k < n
      · have hlt2 : (k : Int) < (n : Int) := by omega
        have hks : k < l.length := by rw [HL.out]; exact hlt
        obtain ⟨x, hx⟩ : ∃ x, x = l[k] := ⟨_, rfl⟩
        obtain ⟨b, off, rfl, hbb, hc⟩ := (Ints.under HR.out HB.out).get k hlt
        rw [← hx] at hc
        have HXX := Lib.hid hx
        have HP := Lib.hid (fun w => nonz_any x w)
        obtain ⟨y, hy⟩ : ∃ y, y = nonz x := ⟨_, rfl⟩
        rw [← hy] at HP
        have HY := Lib.hid hy
        clear hy hx
        go_wp2_with fail
        refine (HP.out _).mono ?_
        rintro e w2 ⟨rfl, b2⟩
        have HB2 := Lib.hid (HB.out.trans (b2.mono HB.out.size))
        clear b2
        cases y with
        | true =>
          have HT := Lib.hid (show l.any nonz = true from List.any_eq_true.2 ⟨l[k], List.getElem_mem _, by rw [← HXX.out, ← HY.out]⟩)
          go_wp2
          go_ret
          exact ⟨k, rfl, HB2.out, by rw [HT.out]; exact decide_eq_true (by omega)⟩
        | false =>
          have HN := Lib.hid (show ∀ j, j < k + 1 → ∀ (h : j < l.length), nonz l[j] = false from fun j hj h => by
            by_cases hjk : j = k
            · subst hjk; rw [← HXX.out, ← HY.out]
            · exact HALL.out j (by omega) h)
          go_wp2
          refine ⟨⟨k + 1, by go_num, by omega, HB2.out, HN.out⟩, by simp [intOf]; omega⟩
      · have hke : k = n := by omega
        subst hke
        have HP := Lib.hid (show l.any nonz = false from by
          rw [Bool.eq_false_iff]
          intro h
          obtain ⟨y, hy, hy2⟩ := List.any_eq_true.1 h
          obtain ⟨j, hj, rfl⟩ := List.getElem_of_mem hy
          rw [HALL.out j (by rw [← HL.out]; exact hj) hj] at hy2
          cases hy2)
        go_wp2
        go_ret
        exact ⟨-1, rfl, HB.out, by rw [HP.out]; rfl⟩
  have HH := Lib.hid HI
  clear HI h
  go_enter Tryd.func45, Tryd.ntmps45
  go_wp2_with fail
  refine HH.out.mono ?_
  rintro e w2 ⟨r, rfl, hb, hd⟩
  have HB := Lib.hid hb
  have HD := Lib.hid hd
  clear hb hd
  go_wp2_with fail
  go_ret
  refine ⟨?_, HB.out⟩
  rw [← HD.out]
  rfl
set_option maxHeartbeats 4000000 in
theorem bad_ents (l : List Ent) (a : Option Addr) (n cap : Nat) (w : World) (h : Ents w a n l) (hn : n ≤ 9223372036854775807) :
    Calls Tryd.prog 51 #[.slice a n cap, .func (.func 52) #[] #[]] w (Says (l.any badE) w) := by
  have HI : Calls Tryd.prog 66 #[.slice a n cap, .func (.func 52) #[] #[]] w fun e w' => ∃ r : Int, e = .returned (.int .i64 r) ∧ Below w.heap.size w w' ∧ decide (0 ≤ r) = l.any badE := by
    have HL := Lib.hid h.1
    have HR := Lib.hid h
    have HA0 := Lib.hid (show ∀ j, j < 0 → ∀ (h : j < l.length), badE l[j] = false from fun k h => absurd h (by omega))
    clear h
    go_enter Tryd.func66, Tryd.ntmps66
    go_upto_block 0 with fail
    go_wp2_with fail
    go_loopw [8] (fun i wr => ∃ k : Nat, i = .int .i64 k ∧ k ≤ n ∧ Below w.heap.size w wr ∧ ∀ j, j < k → ∀ (h : j < l.length), badE l[j] = false) (fun i _ => n - (intOf i).toNat)
    case atStart => exact ⟨0, rfl, Nat.zero_le _, Below.refl _ _, HA0.out⟩
    case round =>
      obtain ⟨k, rfl, hk, hb, hall⟩ := hrel
      have HB := Lib.hid hb
      have HALL := Lib.hid hall
      clear hb hall
      by_cases hlt : k < n
      · have hlt2 : (k : Int) < (n : Int) := by omega
        have hks : k < l.length := by rw [HL.out]; exact hlt
        obtain ⟨x, hx⟩ : ∃ x, x = l[k] := ⟨_, rfl⟩
        obtain ⟨b, off, rfl, hbb, hc0, hc1, hc2⟩ := (Ents.under HR.out HB.out).get k hlt
        rw [← hx] at hc0 hc1 hc2
        have HXX := Lib.hid hx
        have HP := Lib.hid (fun w => bade_any x.client x.number x.text w)
        obtain ⟨y, hy⟩ : ∃ y, y = badE x := ⟨_, rfl⟩
        rw [← hy] at HP
        have HY := Lib.hid hy
        clear hy hx
        go_wp2_with fail
        refine (HP.out _).mono ?_
        rintro e w2 ⟨rfl, b2⟩
        have HB2 := Lib.hid (HB.out.trans (b2.mono HB.out.size))
        clear b2
        cases y with
        | true =>
          have HT := Lib.hid (show l.any badE = true from List.any_eq_true.2 ⟨l[k], List.getElem_mem _, by rw [← HXX.out, ← HY.out]⟩)
          go_wp2
          go_ret
          exact ⟨k, rfl, HB2.out, by rw [HT.out]; exact decide_eq_true (by omega)⟩
        | false =>
          have HN := Lib.hid (show ∀ j, j < k + 1 → ∀ (h : j < l.length), badE l[j] = false from fun j hj h => by
            by_cases hjk : j = k
            · subst hjk; rw [← HXX.out, ← HY.out]
            · exact HALL.out j (by omega) h)
          go_wp2
          refine ⟨⟨k + 1, by go_num, by omega, HB2.out, HN.out⟩, by simp [intOf]; omega⟩
      · have hke : k = n := by omega
        subst hke
        have HP := Lib.hid (show l.any badE = false from by
          rw [Bool.eq_false_iff]
          intro h
          obtain ⟨y, hy, hy2⟩ := List.any_eq_true.1 h
          obtain ⟨j, hj, rfl⟩ := List.getElem_of_mem hy
          rw [HALL.out j (by rw [← HL.out]; exact hj) hj] at hy2
          cases hy2)
        go_wp2
        go_ret
        exact ⟨-1, rfl, HB.out, by rw [HP.out]; rfl⟩
  have HH := Lib.hid HI
  clear HI h
  go_enter Tryd.func51, Tryd.ntmps51
  go_wp2_with fail
  refine HH.out.mono ?_
  rintro e w2 ⟨r, rfl, hb, hd⟩
  have HB := Lib.hid hb
  have HD := Lib.hid hd
  clear hb hd
  go_wp2_with fail
  go_ret
  refine ⟨?_, HB.out⟩
  rw [← HD.out]
  rfl
theorem numbers_any (kind frm born : Int) (known : List Int) (view last op commit client number nonce : Int) (text : ByteArray) (full : Bool) (base : Int) (state : ByteArray) (ents : List Ent) (a : Option Addr) (n cap : Nat) (b : Option Addr) (nn cap2 : Nat) (w : World) :
    Calls Tryd.prog 46 #[.agg #[.int .i64 kind, .int .i64 frm, .int .i64 born, .slice a n cap, .int .i64 view, .int .i64 last, .int .i64 op, .int .i64 commit, .int .i64 client, .int .i64 number, .int .i64 nonce, .string text, .bool full, .int .i64 base, .string state, .slice b nn cap2]] w fun e w' => ∃ g, e = .returned (.slice (some ⟨g, 0, none⟩) 10 10) ∧ Ints w' (some ⟨g, 0, none⟩) 10 (numsM ⟨kind, frm, born, known, view, last, op, commit, client, number, nonce, text, full, base, state, ents⟩) ∧ Below w.heap.size w w' := by
  obtain ⟨V, hV⟩ : ∃ V, V = w.alloc (.cells #[.int .i64 kind, .int .i64 frm, .int .i64 born, .slice a n cap, .int .i64 view, .int .i64 last, .int .i64 op, .int .i64 commit, .int .i64 client, .int .i64 number, .int .i64 nonce, .string text, .bool full, .int .i64 base, .string state, .slice b nn cap2] 53) := ⟨_, rfl⟩
  have hb : Below w.heap.size w V := by rw [hV]; exact (Below.refl _ w).alloc (Nat.le_refl _) _
  have hx : V.heap[w.heap.size]? = some (.cells #[.int .i64 kind, .int .i64 frm, .int .i64 born, .slice a n cap, .int .i64 view, .int .i64 last, .int .i64 op, .int .i64 commit, .int .i64 client, .int .i64 number, .int .i64 nonce, .string text, .bool full, .int .i64 base, .string state, .slice b nn cap2] 53 (0, 0)) := by rw [hV]; exact heap_alloc_new w _
  have x1 := cell_of_row _ _ 1 _ _ (0, 0) hx
  have x2 := cell_of_row _ _ 2 _ _ (0, 0) hx
  have x4 := cell_of_row _ _ 4 _ _ (0, 0) hx
  have x5 := cell_of_row _ _ 5 _ _ (0, 0) hx
  have x6 := cell_of_row _ _ 6 _ _ (0, 0) hx
  have x7 := cell_of_row _ _ 7 _ _ (0, 0) hx
  have x8 := cell_of_row _ _ 8 _ _ (0, 0) hx
  have x9 := cell_of_row _ _ 9 _ _ (0, 0) hx
  have x10 := cell_of_row _ _ 10 _ _ (0, 0) hx
  have x13 := cell_of_row _ _ 13 _ _ (0, 0) hx
  have HV := Lib.hid hV
  have HB := Lib.hid hb
  have HX := Lib.hid hx
  clear hV hb hx
  go_enter Tryd.func46, Tryd.ntmps46
  go_upto_region 1 with fail
  rw [← HV.out]
  go_wp2
  go_ret
  have h := heap_alloc_new V (.cells #[.int .i64 frm, .int .i64 born, .int .i64 view, .int .i64 last, .int .i64 op, .int .i64 commit, .int .i64 client, .int .i64 number, .int .i64 nonce, .int .i64 base] 3)
  refine ⟨_, rfl, ⟨rfl, fun _ => ⟨_, 0, rfl, by simp, fun i hi => ?_⟩⟩, HB.out.alloc HB.out.size _⟩
  rw [cell_of_row _ _ (0 + i) _ _ (0, 0) h]
  rw [Nat.zero_add]
  unfold numsM
  match i, hi with
  | 0, _ => rfl
  | 1, _ => rfl
  | 2, _ => rfl
  | 3, _ => rfl
  | 4, _ => rfl
  | 5, _ => rfl
  | 6, _ => rfl
  | 7, _ => rfl
  | 8, _ => rfl
  | 9, _ => rfl
theorem least_any (kind frm born : Int) (known : List Int) (view last op commit client number nonce : Int) (text : ByteArray) (full : Bool) (base : Int) (state : ByteArray) (ents : List Ent) (a : Option Addr) (n cap : Nat) (b : Option Addr) (nn cap2 : Nat) (w : World) :
    Calls Tryd.prog 49 #[.agg #[.int .i64 kind, .int .i64 frm, .int .i64 born, .slice a n cap, .int .i64 view, .int .i64 last, .int .i64 op, .int .i64 commit, .int .i64 client, .int .i64 number, .int .i64 nonce, .string text, .bool full, .int .i64 base, .string state, .slice b nn cap2]] w (Says (leastB ⟨kind, frm, born, known, view, last, op, commit, client, number, nonce, text, full, base, state, ents⟩) w) := by
  obtain ⟨q, hq⟩ : ∃ q, q = leastB ⟨kind, frm, born, known, view, last, op, commit, client, number, nonce, text, full, base, state, ents⟩ := ⟨_, rfl⟩
  rw [← hq]
  unfold leastB at hq
  dsimp only at hq
  have HQ := Lib.hid hq
  clear hq
  obtain ⟨V, hV⟩ : ∃ V, V = w.alloc (.cells #[.int .i64 kind, .int .i64 frm, .int .i64 born, .slice a n cap, .int .i64 view, .int .i64 last, .int .i64 op, .int .i64 commit, .int .i64 client, .int .i64 number, .int .i64 nonce, .string text, .bool full, .int .i64 base, .string state, .slice b nn cap2] 53) := ⟨_, rfl⟩
  have hb : Below w.heap.size w V := by rw [hV]; exact (Below.refl _ w).alloc (Nat.le_refl _) _
  have hx : V.heap[w.heap.size]? = some (.cells #[.int .i64 kind, .int .i64 frm, .int .i64 born, .slice a n cap, .int .i64 view, .int .i64 last, .int .i64 op, .int .i64 commit, .int .i64 client, .int .i64 number, .int .i64 nonce, .string text, .bool full, .int .i64 base, .string state, .slice b nn cap2] 53 (0, 0)) := by rw [hV]; exact heap_alloc_new w _
  have x0 := cell_of_row _ _ 0 _ _ (0, 0) hx
  have x6 := cell_of_row _ _ 6 _ _ (0, 0) hx
  have x9 := cell_of_row _ _ 9 _ _ (0, 0) hx
  have x10 := cell_of_row _ _ 10 _ _ (0, 0) hx
  have HV := Lib.hid hV
  have HB := Lib.hid hb
  have HX := Lib.hid hx
  clear hV hb hx
  by_cases h1 : kind = 1
  · subst h1
    have hqt : q = decide (0 < number) := by rw [HQ.out]; simp
    have HQT := Lib.hid hqt
    clear hqt HQ
    go_enter Tryd.func49, Tryd.ntmps49
    go_upto_region 1 with fail
    rw [← HV.out]
    go_wp2
    go_ret
    exact ⟨by rw [HQT.out]; rfl, HB.out⟩
  · have k1 : (kind == 1) = false := by simpa using h1
    by_cases h4 : kind = 4
    · subst h4
      have hqt : q = decide (0 < number) := by rw [HQ.out]; simp
      have HQT := Lib.hid hqt
      clear hqt HQ
      go_enter Tryd.func49, Tryd.ntmps49
      go_upto_region 1 with fail
      rw [← HV.out]
      go_wp2
      go_ret
      exact ⟨by rw [HQT.out]; rfl, HB.out⟩
    · have k4 : (kind == 4) = false := by simpa using h4
      by_cases h2 : kind = 2
      · subst h2
        have hqt : q = decide (0 < op) := by rw [HQ.out]; simp
        have HQT := Lib.hid hqt
        clear hqt HQ
        go_enter Tryd.func49, Tryd.ntmps49
        go_upto_region 1 with fail
        rw [← HV.out]
        go_wp2
        go_ret
        exact ⟨by rw [HQT.out]; rfl, HB.out⟩
      · have k2 : (kind == 2) = false := by simpa using h2
        by_cases h9 : kind = 9
        · subst h9
          have hqt : q = decide (0 < nonce) := by rw [HQ.out]; simp
          have HQT := Lib.hid hqt
          clear hqt HQ
          go_enter Tryd.func49, Tryd.ntmps49
          go_upto_region 1 with fail
          rw [← HV.out]
          go_wp2
          go_ret
          exact ⟨by rw [HQT.out]; rfl, HB.out⟩
        · have k9 : (kind == 9) = false := by simpa using h9
          by_cases h10 : kind = 10
          · subst h10
            have hqt : q = decide (0 < nonce) := by rw [HQ.out]; simp
            have HQT := Lib.hid hqt
            clear hqt HQ
            go_enter Tryd.func49, Tryd.ntmps49
            go_upto_region 1 with fail
            rw [← HV.out]
            go_wp2
            go_ret
            exact ⟨by rw [HQT.out]; rfl, HB.out⟩
          · have k10 : (kind == 10) = false := by simpa using h10
            have hqt : q = true := by rw [HQ.out]; simp [h1, h4, h2, h9, h10]
            have HQT := Lib.hid hqt
            clear hqt HQ
            go_enter Tryd.func49, Tryd.ntmps49
            go_upto_region 1 with fail
            rw [← HV.out]
            go_wp2
            go_ret
            exact ⟨by rw [HQT.out]; rfl, HB.out⟩
theorem size_any (kind frm born : Int) (known : List Int) (view last op commit client number nonce : Int) (text : ByteArray) (full : Bool) (base : Int) (state : ByteArray) (ents : List Ent) (a : Option Addr) (n cap : Nat) (b : Option Addr) (nn cap2 : Nat) (w : World) (ho : 0 ≤ op) (ho2 : op ≤ 9007199254740992) (hb0 : 0 ≤ base) (hb2 : base ≤ 9007199254740992) :
    Calls Tryd.prog 50 #[.agg #[.int .i64 kind, .int .i64 frm, .int .i64 born, .slice a n cap, .int .i64 view, .int .i64 last, .int .i64 op, .int .i64 commit, .int .i64 client, .int .i64 number, .int .i64 nonce, .string text, .bool full, .int .i64 base, .string state, .slice b nn cap2]] w fun e w' => e = .returned (.int .i64 (sizeM ⟨kind, frm, born, known, view, last, op, commit, client, number, nonce, text, full, base, state, ents⟩)) ∧ Below w.heap.size w w' := by
  obtain ⟨q, hq⟩ : ∃ q, q = sizeM ⟨kind, frm, born, known, view, last, op, commit, client, number, nonce, text, full, base, state, ents⟩ := ⟨_, rfl⟩
  rw [← hq]
  unfold sizeM at hq
  dsimp only at hq
  have HQ := Lib.hid hq
  clear hq
  have hwr : IntKind.i64.wrap (op - base) = op - base := IntWalk.i64_in _ (by omega)
  obtain ⟨V, hV⟩ : ∃ V, V = w.alloc (.cells #[.int .i64 kind, .int .i64 frm, .int .i64 born, .slice a n cap, .int .i64 view, .int .i64 last, .int .i64 op, .int .i64 commit, .int .i64 client, .int .i64 number, .int .i64 nonce, .string text, .bool full, .int .i64 base, .string state, .slice b nn cap2] 53) := ⟨_, rfl⟩
  have hb : Below w.heap.size w V := by rw [hV]; exact (Below.refl _ w).alloc (Nat.le_refl _) _
  have hx : V.heap[w.heap.size]? = some (.cells #[.int .i64 kind, .int .i64 frm, .int .i64 born, .slice a n cap, .int .i64 view, .int .i64 last, .int .i64 op, .int .i64 commit, .int .i64 client, .int .i64 number, .int .i64 nonce, .string text, .bool full, .int .i64 base, .string state, .slice b nn cap2] 53 (0, 0)) := by rw [hV]; exact heap_alloc_new w _
  have x0 := cell_of_row _ _ 0 _ _ (0, 0) hx
  have x6 := cell_of_row _ _ 6 _ _ (0, 0) hx
  have x13 := cell_of_row _ _ 13 _ _ (0, 0) hx
  have HV := Lib.hid hV
  have HB := Lib.hid hb
  have HX := Lib.hid hx
  clear hV hb hx
  by_cases h2 : kind = 2
  · subst h2
    have hqt : q = 1 := by rw [HQ.out]; simp
    have HQT := Lib.hid hqt
    clear hqt HQ
    go_enter Tryd.func50, Tryd.ntmps50
    go_upto_region 1 with fail
    rw [← HV.out]
    go_wp2
    go_ret
    exact ⟨by rw [HQT.out]; rfl, HB.out⟩
  · have k2 : (kind == 2) = false := by simpa using h2
    by_cases h7 : kind = 7
    · subst h7
      have hqt : q = op - base := by rw [HQ.out]; simp
      have HQT := Lib.hid hqt
      clear hqt HQ
      go_enter Tryd.func50, Tryd.ntmps50
      go_upto_region 1 with fail
      rw [← HV.out]
      go_wp2
      go_ret
      exact ⟨by rw [HQT.out]; rfl, HB.out⟩
    · have k7 : (kind == 7) = false := by simpa using h7
      by_cases h8 : kind = 8
      · subst h8
        have hqt : q = op - base := by rw [HQ.out]; simp
        have HQT := Lib.hid hqt
        clear hqt HQ
        go_enter Tryd.func50, Tryd.ntmps50
        go_upto_region 1 with fail
        rw [← HV.out]
        go_wp2
        go_ret
        exact ⟨by rw [HQT.out]; rfl, HB.out⟩
      · have k8 : (kind == 8) = false := by simpa using h8
        by_cases h10 : kind = 10
        · subst h10
          have hqt : q = op - base := by rw [HQ.out]; simp
          have HQT := Lib.hid hqt
          clear hqt HQ
          go_enter Tryd.func50, Tryd.ntmps50
          go_upto_region 1 with fail
          rw [← HV.out]
          go_wp2
          go_ret
          exact ⟨by rw [HQT.out]; rfl, HB.out⟩
        · have k10 : (kind == 10) = false := by simpa using h10
          by_cases h12 : kind = 12
          · subst h12
            have hqt : q = op - base := by rw [HQ.out]; simp
            have HQT := Lib.hid hqt
            clear hqt HQ
            go_enter Tryd.func50, Tryd.ntmps50
            go_upto_region 1 with fail
            rw [← HV.out]
            go_wp2
            go_ret
            exact ⟨by rw [HQT.out]; rfl, HB.out⟩
          · have k12 : (kind == 12) = false := by simpa using h12
            have hqt : q = 0 := by rw [HQ.out]; simp [h2, h7, h8, h10, h12]
            have HQT := Lib.hid hqt
            clear hqt HQ
            go_enter Tryd.func50, Tryd.ntmps50
            go_upto_region 1 with fail
            rw [← HV.out]
            go_wp2
            go_ret
            exact ⟨by rw [HQT.out]; rfl, HB.out⟩
set_option maxHeartbeats 4000000 in
theorem sender_any (kind frm born : Int) (known : List Int) (view last op commit client number nonce : Int) (text : ByteArray) (full : Bool) (base : Int) (state : ByteArray) (ents : List Ent) (a : Option Addr) (n cap : Nat) (b : Option Addr) (nn cap2 : Nat) (r : Int) (w : World) (hn : known.length = n) (h : Ints w a n known) (hnn : n ≤ 9223372036854775807) :
    Calls Tryd.prog 48 #[.agg #[.int .i64 kind, .int .i64 frm, .int .i64 born, .slice a n cap, .int .i64 view, .int .i64 last, .int .i64 op, .int .i64 commit, .int .i64 client, .int .i64 number, .int .i64 nonce, .string text, .bool full, .int .i64 base, .string state, .slice b nn cap2], .int .i64 r] w (Says (senderB ⟨kind, frm, born, known, view, last, op, commit, client, number, nonce, text, full, base, state, ents⟩ r) w) := by
  obtain ⟨q, hq⟩ : ∃ q, q = senderB ⟨kind, frm, born, known, view, last, op, commit, client, number, nonce, text, full, base, state, ents⟩ r := ⟨_, rfl⟩
  rw [← hq]
  unfold senderB at hq
  dsimp only at hq
  obtain ⟨z, hz⟩ : ∃ z, z = known.any badN := ⟨_, rfl⟩
  rw [hn, ← hz] at hq
  have HC := Lib.hid (fun (w : World) (h : Ints w a n known) => show Calls Tryd.prog 45 #[.slice a n cap, .func (.func 47) #[] #[]] w (Says z w) by rw [hz]; exact bad_ints known a n cap w h hnn)
  have HQ := Lib.hid hq
  clear hq hz
  obtain ⟨V, hV⟩ : ∃ V, V = w.alloc (.cells #[.int .i64 kind, .int .i64 frm, .int .i64 born, .slice a n cap, .int .i64 view, .int .i64 last, .int .i64 op, .int .i64 commit, .int .i64 client, .int .i64 number, .int .i64 nonce, .string text, .bool full, .int .i64 base, .string state, .slice b nn cap2] 53) := ⟨_, rfl⟩
  have hb : Below w.heap.size w V := by rw [hV]; exact (Below.refl _ w).alloc (Nat.le_refl _) _
  have hx : V.heap[w.heap.size]? = some (.cells #[.int .i64 kind, .int .i64 frm, .int .i64 born, .slice a n cap, .int .i64 view, .int .i64 last, .int .i64 op, .int .i64 commit, .int .i64 client, .int .i64 number, .int .i64 nonce, .string text, .bool full, .int .i64 base, .string state, .slice b nn cap2] 53 (0, 0)) := by rw [hV]; exact heap_alloc_new w _
  have HI := Lib.hid (h.under hb)
  clear h
  have x0 := cell_of_row _ _ 0 _ _ (0, 0) hx
  have x1 := cell_of_row _ _ 1 _ _ (0, 0) hx
  have x3 := cell_of_row _ _ 3 _ _ (0, 0) hx
  have HV := Lib.hid hV
  have HB := Lib.hid hb
  have HX := Lib.hid hx
  clear hV hb hx
  by_cases h1 : kind = 1
  · have hqt : q = true := by rw [HQ.out, decide_eq_true h1]; rfl
    clear HQ
    subst hqt h1
    go_enter Tryd.func48, Tryd.ntmps48
    go_upto_region 1 with fail
    rw [← HV.out]
    go_wp2
    go_ret
    exact ⟨rfl, HB.out⟩
  · have k1 : (kind == 1) = false := by simpa using h1
    by_cases h2 : frm < r
    · by_cases h3 : (n : Int) = r
      · have hqt : q = !z := by rw [HQ.out, decide_eq_false h1, decide_eq_true h2, decide_eq_true h3]; rfl
        clear HQ
        subst hqt h3
        go_enter Tryd.func48, Tryd.ntmps48
        go_upto_region 1 with fail
        rw [← HV.out]
        go_wp2_with fail
        refine (HC.out _ HI.out).mono ?_
        rintro e w2 ⟨rfl, b2⟩
        have HB2 := Lib.hid (HB.out.trans (b2.mono HB.out.size))
        clear b2
        go_wp2
        go_ret
        exact ⟨rfl, HB2.out⟩
      · have k3 : ((n : Int) == r) = false := by simpa using h3
        have hqt : q = false := by rw [HQ.out, decide_eq_false h1, decide_eq_false h3]; cases decide (frm < r) <;> rfl
        clear HQ
        subst hqt
        go_enter Tryd.func48, Tryd.ntmps48
        go_upto_region 1 with fail
        rw [← HV.out]
        go_wp2
        go_ret
        exact ⟨rfl, HB.out⟩
    · have hqt : q = false := by rw [HQ.out, decide_eq_false h1, decide_eq_false h2]; rfl
      clear HQ
      subst hqt
      go_enter Tryd.func48, Tryd.ntmps48
      go_upto_region 1 with fail
      rw [← HV.out]
      go_wp2
      go_ret
      exact ⟨rfl, HB.out⟩
end Go.Proofs.YtgbpofgmomglfaaDoor.Ms
