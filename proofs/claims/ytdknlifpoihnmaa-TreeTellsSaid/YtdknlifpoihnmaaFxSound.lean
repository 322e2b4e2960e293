/-
  The walk of Sound.
-/
import Derived.Test.YtdknlifpoihnmaaFxSort
import Derived.Test.YtdknlifpoihnmaaFxDist
import Derived.WalkLawsBesides
namespace Go.Proofs.Ytdknlifpoihnmaa.Fx
open Go.RowKit
open Gn (Asks)
set_option maxRecDepth 100000

def fewB (g : PG) : Bool := decide (g.names.length ≤ 256 ∧ g.terms.length ≤ 256 ∧ g.prods.length ≤ 256)
def soundB (g : PG) : Bool := fewB g && (ntB g g.start && (decide (0 ≤ g.rules) && (decide (g.rules ≤ g.names.length) && (distinctB g.names && (distinctB g.terms && (!g.terms.any longB && (!g.prods.any (wrongB g) && sortedB g.prods)))))))
/-- Texts and right sides that are not greater than any machine's. -/
structure PG.Fits (g : PG) : Prop extends PG.Small g where
  ntext : ∀ s ∈ g.names, s.size ≤ maxLen
  ttext : ∀ s ∈ g.terms, s.size ≤ maxLen
  sides : ∀ p ∈ g.prods, p.right.length ≤ 1099511627776

set_option maxHeartbeats 8000000 in
theorem sound_any (g : PG) (hs : g.Fits) (P : Nat → Prop) (W : World) (v : Value) (h : PgAt P W g v) :
    Calls Try.prog 36 #[v] W (Asks (soundB g) W) := by
  have hmf : ∀ (fn : Fn) (first cap : Array Value) (w : World), (Instr.makeFunc fn first cap).run Try.prog w = .ok (.func fn first cap) w := fun _ _ _ _ => rfl
  obtain ⟨An, At_, Ap, cn, ct, cp, rfl, hN, hT, hP⟩ := h.open_
  have hbb : Below W.heap.size W (W.alloc (.cells #[.int .i64 g.start, .int .i64 g.rules, .slice An g.names.length cn, .slice At_ g.terms.length ct, .slice Ap g.prods.length cp] 31)) := (Below.refl _ _).alloc (Nat.le_refl _) _
  have hbx := heap_alloc_new W (.cells #[.int .i64 g.start, .int .i64 g.rules, .slice An g.names.length cn, .slice At_ g.terms.length ct, .slice Ap g.prods.length cp] 31)
  obtain ⟨V, hV⟩ : ∃ V, V = W.alloc (.cells #[.int .i64 g.start, .int .i64 g.rules, .slice An g.names.length cn, .slice At_ g.terms.length ct, .slice Ap g.prods.length cp] 31) := ⟨_, rfl⟩
  rw [← hV] at hbb hbx
  have KT := Lib.hid (fun w (b : Below V.heap.size V w) => nonterm_any g hs.toSmall P w _ ((h.under hbb).under b) g.start)
  have KD := Lib.hid (fun w (b : Below V.heap.size V w) => distinct_any g.names hs.names hs.ntext P w _ ((hN.under hbb).under b))
  have KE := Lib.hid (fun w (b : Below V.heap.size V w) => distinct_any g.terms hs.terms hs.ttext P w _ ((hT.under hbb).under b))
  have KL := Lib.hid (fun w (b : Below V.heap.size V w) => has_long g.terms P w _ ((hT.under hbb).under b) hs.terms fun x _ w' _ => (long_any x w').mono fun e w2 ⟨h1, h2⟩ => ⟨h1, by rw [← h2]; exact Below.refl _ _⟩)
  have KW := Lib.hid (fun w (b : Below V.heap.size V w) => has_wrong g _ g.prods P w _ ((hP.under hbb).under b) hs.prods fun x hx u w' hu hb' => wrong_any g hs.toSmall P w' _ (((h.under hbb).under b).under hb') x u hu (hs.sides x hx))
  have KS := Lib.hid (fun w (b : Below V.heap.size V w) => sorted_any g.prods P w _ ((hP.under hbb).under b) hs.prods)
  have hln := hs.names
  have hlt := hs.terms
  have hlp := hs.prods
  have HBB := Lib.hid hbb
  have HBX := Lib.hid hbx
  unfold soundB
  clear h hN hT hP hbb hbx hs
  generalize ntB g g.start = b0 at KT ⊢
  generalize distinctB g.names = b1 at KD ⊢
  generalize distinctB g.terms = b2 at KE ⊢
  generalize g.terms.any longB = b3 at KL ⊢
  generalize g.prods.any (wrongB g) = b4 at KW ⊢
  generalize sortedB g.prods = b5 at KS ⊢
  unfold fewB
  generalize g.names.length = ln at *
  generalize g.terms.length = lt at *
  generalize g.prods.length = lp at *
  generalize g.start = st at *
  generalize g.rules = ru at *
  have HV := Lib.hid hV
  clear hV
  by_cases hf : ln ≤ 256 ∧ lt ≤ 256 ∧ lp ≤ 256
  · rw [decide_eq_true hf, Bool.true_and]
    obtain ⟨M, hM, hM2⟩ : ∃ M : Int, (if (if ln < lt then (lt : Int) else (ln : Int)) < (lp : Int) then (lp : Int) else if ln < lt then (lt : Int) else (ln : Int)) = M ∧ ¬ 256 < M := ⟨_, rfl, by split <;> split <;> omega⟩
    clear hf
    go_enter Try.func36, Try.ntmps36
    go_upto_region 4 with fail
    rw [← HV.out]
    have hbxV := ((Below.refl V.heap.size V).block _ (Gn.heap_lt HBX.out)).trans HBX.out
    have c0V : V.cell? ⟨W.heap.size, 0, none⟩ = some (.int .i64 st) := cell_of_row _ _ 0 _ _ (0, 0) hbxV
    have c1V : V.cell? ⟨W.heap.size, 1, none⟩ = some (.int .i64 ru) := cell_of_row _ _ 1 _ _ (0, 0) hbxV
    have c2V : V.cell? ⟨W.heap.size, 2, none⟩ = some (.slice An ln cn) := cell_of_row _ _ 2 _ _ (0, 0) hbxV
    have c3V : V.cell? ⟨W.heap.size, 3, none⟩ = some (.slice At_ lt ct) := cell_of_row _ _ 3 _ _ (0, 0) hbxV
    have c4V : V.cell? ⟨W.heap.size, 4, none⟩ = some (.slice Ap lp cp) := cell_of_row _ _ 4 _ _ (0, 0) hbxV
    have HV0 := Lib.hid (Below.refl V.heap.size V)
    go_wp2_with fail
    refine (KT.out _ HV0.out).mono ?_
    rintro e w1 ⟨rfl, bbw1⟩
    have Hw1 := Lib.hid (HV0.out.trans (bbw1.mono HV0.out.size))
    clear bbw1 hbxV c0V c1V c2V c3V c4V
    have hbxw1 := (Hw1.out.block _ (Gn.heap_lt HBX.out)).trans HBX.out
    have c0w1 : w1.cell? ⟨W.heap.size, 0, none⟩ = some (.int .i64 st) := cell_of_row _ _ 0 _ _ (0, 0) hbxw1
    have c1w1 : w1.cell? ⟨W.heap.size, 1, none⟩ = some (.int .i64 ru) := cell_of_row _ _ 1 _ _ (0, 0) hbxw1
    have c2w1 : w1.cell? ⟨W.heap.size, 2, none⟩ = some (.slice An ln cn) := cell_of_row _ _ 2 _ _ (0, 0) hbxw1
    have c3w1 : w1.cell? ⟨W.heap.size, 3, none⟩ = some (.slice At_ lt ct) := cell_of_row _ _ 3 _ _ (0, 0) hbxw1
    have c4w1 : w1.cell? ⟨W.heap.size, 4, none⟩ = some (.slice Ap lp cp) := cell_of_row _ _ 4 _ _ (0, 0) hbxw1
    cases b0
    · skip
      go_wp2
      go_ret
      exact ⟨by (try rw [HD0.out]); (try rw [HD1.out]); (try rw [HD.out]); rfl, HBB.out.trans (Hw1.out.mono HBB.out.size)⟩
    · skip
      by_cases h0 : 0 ≤ ru
      rotate_left
      · have HD := Lib.hid (show decide (0 ≤ ru) = false from decide_eq_false h0)
        go_wp2
        go_ret
        exact ⟨by (try rw [HD0.out]); (try rw [HD1.out]); (try rw [HD.out]); rfl, HBB.out.trans (Hw1.out.mono HBB.out.size)⟩
      have HD0 := Lib.hid (show decide (0 ≤ ru) = true from decide_eq_true h0)
      by_cases h1 : ru ≤ (ln : Int)
      rotate_left
      · have HD := Lib.hid (show decide (ru ≤ (ln : Int)) = false from decide_eq_false h1)
        go_wp2
        go_ret
        exact ⟨by (try rw [HD0.out]); (try rw [HD1.out]); (try rw [HD.out]); rfl, HBB.out.trans (Hw1.out.mono HBB.out.size)⟩
      have HD1 := Lib.hid (show decide (ru ≤ (ln : Int)) = true from decide_eq_true h1)
      go_wp2_with fail
      refine (KD.out _ Hw1.out).mono ?_
      rintro e w2 ⟨rfl, bbw2⟩
      have Hw2 := Lib.hid (Hw1.out.trans (bbw2.mono Hw1.out.size))
      clear bbw2 hbxw1 c0w1 c1w1 c2w1 c3w1 c4w1
      have hbxw2 := (Hw2.out.block _ (Gn.heap_lt HBX.out)).trans HBX.out
      have c0w2 : w2.cell? ⟨W.heap.size, 0, none⟩ = some (.int .i64 st) := cell_of_row _ _ 0 _ _ (0, 0) hbxw2
      have c1w2 : w2.cell? ⟨W.heap.size, 1, none⟩ = some (.int .i64 ru) := cell_of_row _ _ 1 _ _ (0, 0) hbxw2
      have c2w2 : w2.cell? ⟨W.heap.size, 2, none⟩ = some (.slice An ln cn) := cell_of_row _ _ 2 _ _ (0, 0) hbxw2
      have c3w2 : w2.cell? ⟨W.heap.size, 3, none⟩ = some (.slice At_ lt ct) := cell_of_row _ _ 3 _ _ (0, 0) hbxw2
      have c4w2 : w2.cell? ⟨W.heap.size, 4, none⟩ = some (.slice Ap lp cp) := cell_of_row _ _ 4 _ _ (0, 0) hbxw2
      cases b1
      · skip
        go_wp2
        go_ret
        exact ⟨by (try rw [HD0.out]); (try rw [HD1.out]); (try rw [HD.out]); rfl, HBB.out.trans (Hw2.out.mono HBB.out.size)⟩
      · skip
        go_wp2_with fail
        refine (KE.out _ Hw2.out).mono ?_
        rintro e w3 ⟨rfl, bbw3⟩
        have Hw3 := Lib.hid (Hw2.out.trans (bbw3.mono Hw2.out.size))
        clear bbw3 hbxw2 c0w2 c1w2 c2w2 c3w2 c4w2
        have hbxw3 := (Hw3.out.block _ (Gn.heap_lt HBX.out)).trans HBX.out
        have c0w3 : w3.cell? ⟨W.heap.size, 0, none⟩ = some (.int .i64 st) := cell_of_row _ _ 0 _ _ (0, 0) hbxw3
        have c1w3 : w3.cell? ⟨W.heap.size, 1, none⟩ = some (.int .i64 ru) := cell_of_row _ _ 1 _ _ (0, 0) hbxw3
        have c2w3 : w3.cell? ⟨W.heap.size, 2, none⟩ = some (.slice An ln cn) := cell_of_row _ _ 2 _ _ (0, 0) hbxw3
        have c3w3 : w3.cell? ⟨W.heap.size, 3, none⟩ = some (.slice At_ lt ct) := cell_of_row _ _ 3 _ _ (0, 0) hbxw3
        have c4w3 : w3.cell? ⟨W.heap.size, 4, none⟩ = some (.slice Ap lp cp) := cell_of_row _ _ 4 _ _ (0, 0) hbxw3
        cases b2
        · skip
          go_wp2
          go_ret
          exact ⟨by (try rw [HD0.out]); (try rw [HD1.out]); (try rw [HD.out]); rfl, HBB.out.trans (Hw3.out.mono HBB.out.size)⟩
        · skip
          go_wp2_with fail
          refine (KL.out _ Hw3.out).mono ?_
          rintro e w4 ⟨rfl, bbw4⟩
          have Hw4 := Lib.hid (Hw3.out.trans (bbw4.mono Hw3.out.size))
          clear bbw4 hbxw3 c0w3 c1w3 c2w3 c3w3 c4w3
          have hbxw4 := (Hw4.out.block _ (Gn.heap_lt HBX.out)).trans HBX.out
          have c0w4 : w4.cell? ⟨W.heap.size, 0, none⟩ = some (.int .i64 st) := cell_of_row _ _ 0 _ _ (0, 0) hbxw4
          have c1w4 : w4.cell? ⟨W.heap.size, 1, none⟩ = some (.int .i64 ru) := cell_of_row _ _ 1 _ _ (0, 0) hbxw4
          have c2w4 : w4.cell? ⟨W.heap.size, 2, none⟩ = some (.slice An ln cn) := cell_of_row _ _ 2 _ _ (0, 0) hbxw4
          have c3w4 : w4.cell? ⟨W.heap.size, 3, none⟩ = some (.slice At_ lt ct) := cell_of_row _ _ 3 _ _ (0, 0) hbxw4
          have c4w4 : w4.cell? ⟨W.heap.size, 4, none⟩ = some (.slice Ap lp cp) := cell_of_row _ _ 4 _ _ (0, 0) hbxw4
          cases b3
          rotate_left
          · skip
            go_wp2
            go_ret
            exact ⟨by (try rw [HD0.out]); (try rw [HD1.out]); (try rw [HD.out]); rfl, HBB.out.trans (Hw4.out.mono HBB.out.size)⟩
          · skip
            go_wp2_with fail
            refine (KW.out _ Hw4.out).mono ?_
            rintro e w5 ⟨rfl, bbw5⟩
            have Hw5 := Lib.hid (Hw4.out.trans (bbw5.mono Hw4.out.size))
            clear bbw5 hbxw4 c0w4 c1w4 c2w4 c3w4 c4w4
            have hbxw5 := (Hw5.out.block _ (Gn.heap_lt HBX.out)).trans HBX.out
            have c0w5 : w5.cell? ⟨W.heap.size, 0, none⟩ = some (.int .i64 st) := cell_of_row _ _ 0 _ _ (0, 0) hbxw5
            have c1w5 : w5.cell? ⟨W.heap.size, 1, none⟩ = some (.int .i64 ru) := cell_of_row _ _ 1 _ _ (0, 0) hbxw5
            have c2w5 : w5.cell? ⟨W.heap.size, 2, none⟩ = some (.slice An ln cn) := cell_of_row _ _ 2 _ _ (0, 0) hbxw5
            have c3w5 : w5.cell? ⟨W.heap.size, 3, none⟩ = some (.slice At_ lt ct) := cell_of_row _ _ 3 _ _ (0, 0) hbxw5
            have c4w5 : w5.cell? ⟨W.heap.size, 4, none⟩ = some (.slice Ap lp cp) := cell_of_row _ _ 4 _ _ (0, 0) hbxw5
            cases b4
            rotate_left
            · skip
              go_wp2
              go_ret
              exact ⟨by (try rw [HD0.out]); (try rw [HD1.out]); (try rw [HD.out]); rfl, HBB.out.trans (Hw5.out.mono HBB.out.size)⟩
            · skip
              go_wp2_with fail
              refine (KS.out _ Hw5.out).mono ?_
              rintro e w6 ⟨rfl, bbw6⟩
              have Hw6 := Lib.hid (Hw5.out.trans (bbw6.mono Hw5.out.size))
              clear bbw6 hbxw5 c0w5 c1w5 c2w5 c3w5 c4w5
              go_wp2
              go_ret
              exact ⟨by (try rw [HD0.out]); (try rw [HD1.out]); (try rw [HD.out]); rfl, HBB.out.trans (Hw6.out.mono HBB.out.size)⟩
  · rw [decide_eq_false hf, Bool.false_and]
    obtain ⟨M, hM, hM2⟩ : ∃ M : Int, (if (if ln < lt then (lt : Int) else (ln : Int)) < (lp : Int) then (lp : Int) else if ln < lt then (lt : Int) else (ln : Int)) = M ∧ 256 < M := ⟨_, rfl, by split <;> split <;> omega⟩
    clear hf
    go_enter Try.func36, Try.ntmps36
    go_wp2_with fail
    rw [← HV.out]
    go_ret
    exact ⟨rfl, HBB.out⟩
end Go.Proofs.Ytdknlifpoihnmaa.Fx
