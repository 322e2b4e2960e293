/-
  Layer 14: the walks of turned, rootOf, side, fits, Check.
-/
import Derived.Test.YtdknlifpoihnmaaTrA
import Derived.Test.YtdknlifpoihnmaaLooseD
namespace Go.Proofs.Ytdknlifpoihnmaa.Tr
open Go.RowKit
open Fx (IntsAt StrsAt Prd PG PrdsAt PgAt)
set_option maxRecDepth 100000
set_option linter.unusedSimpArgs false
set_option linter.unusedVariables false

/-- The terminal of a node. -/
def turnW (n : Int) : Int := wrap64 (-1 - n)
theorem turned_any (n : Int) (W : World) : Calls Try.prog 66 #[.int .i64 n] W fun e w' => e = .returned (.int .i64 (turnW n)) ∧ W = w' := by
  unfold turnW
  go_enter Try.func66, Try.ntmps66
  go_wp2
  go_ret
  exact ⟨rfl, rfl⟩

/-- The symbol of a node, and whether there is such a one. -/
def rootT (g : PG) (n : Int) : Int × Bool :=
  if n < 0 then (n, decide (-(g.terms.length : Int) ≤ n)) else if h : n.toNat < g.prods.length then (g.prods[n.toNat].left, true) else (0, false)
def sideT (g : PG) (n : Int) : List Int :=
  if n < 0 then [] else if h : n.toNat < g.prods.length then g.prods[n.toNat].right else []
/-- A grammar's rows are no longer than any machine's. -/
structure Fit (g : PG) : Prop where
  terms : g.terms.length ≤ 1099511627776
  prods : g.prods.length ≤ 1099511627776
theorem two_out {n : Int} {b : Bool} {x : Int × Bool} (h : (n, b) = x) : Ending.returned (.tuple #[.int .i64 n, .bool b]) = Ending.returned (.tuple #[.int .i64 x.1, .bool x.2]) := by rw [← h]

set_option maxHeartbeats 2000000 in
theorem rootOf_any (g : PG) (hf : Fit g) (P : Nat → Prop) (W : World) (v : Value) (h : PgAt P W g v) (n : Int) :
    Calls Try.prog 61 #[v, .int .i64 n] W fun e w' => e = .returned (.tuple #[.int .i64 (rootT g n).1, .bool (rootT g n).2]) ∧ Below W.heap.size W w' := by
  obtain ⟨An, At_, Ap, cn, ct, cp, rfl, hN, hT, hP⟩ := h.open_
  obtain ⟨lt, hlt⟩ : ∃ lt, lt = g.terms.length := ⟨_, rfl⟩
  obtain ⟨lp, hlp⟩ : ∃ lp, lp = g.prods.length := ⟨_, rfl⟩
  obtain ⟨A2, cap, b, f, e1, hcap, hA, hc⟩ := hP
  injection e1 with e1 e2 e3
  subst e1 e3
  have h1 := hf.terms
  have h2 := hf.prods
  rw [← hlt] at h1
  rw [← hlp] at h2 hA
  have HB := Lib.hid ((Below.refl W.heap.size W).alloc (Nat.le_refl _) (.cells #[.int .i64 g.start, .int .i64 g.rules, .slice An g.names.length cn, .slice At_ g.terms.length ct, .slice Ap g.prods.length cp] 31))
  have hbx := heap_alloc_new W (.cells #[.int .i64 g.start, .int .i64 g.rules, .slice An g.names.length cn, .slice At_ g.terms.length ct, .slice Ap g.prods.length cp] 31)
  rw [← hlt, ← hlp] at HB hbx ⊢
  have b3 := cell_of_row _ _ 3 _ _ (0, 0) hbx
  have b4 := cell_of_row _ _ 4 _ _ (0, 0) hbx
  have HLT := Lib.hid hlt
  have HLP := Lib.hid hlp
  clear hbx hT hN h hlt hlp
  by_cases hn : n < 0
  · have HE := Lib.hid (show (n, decide (-(lt : Int) ≤ n)) = rootT g n by unfold rootT; rw [if_pos hn, HLT.out])
    go_enter Try.func61, Try.ntmps61
    go_wp2_with fail
    generalize hV : World.alloc W _ = V
    rw [hV] at HB b3 b4
    clear hV
    go_quiet (fail)
    go_wp2
    refine bodyPost_ret (results_tmp2 rfl _ _ _) rfl ?_
    exact ⟨two_out HE.out, Gn.below_drewN HB.out _⟩
  · by_cases hd : (lp : Int) ≤ n
    · have HE := Lib.hid (show ((0 : Int), false) = rootT g n by unfold rootT; rw [if_neg hn, dif_neg (by have := HLP.out; omega)])
      go_enter Try.func61, Try.ntmps61
      go_wp2
      refine bodyPost_ret (results_tmp2 rfl _ _ _) rfl ?_
      exact ⟨two_out HE.out, HB.out⟩
    · obtain ⟨k, rfl⟩ : ∃ k : Nat, n = (k : Int) := ⟨n.toNat, by omega⟩
      have hkp : k < g.prods.length := by rw [← HLP.out]; omega
      obtain ⟨rfl, hbl, hPb⟩ := hA (by omega)
      obtain ⟨q0, q1, q2⟩ := hc k hkp
      have HE := Lib.hid (show (g.prods[k].left, true) = rootT g (k : Int) by unfold rootT; rw [if_neg hn, dif_pos (by simpa using hkp)]; simp)
      have hk2 : k < lp := by omega
      obtain ⟨lf, hlf⟩ : ∃ lf, lf = g.prods[k].left := ⟨_, rfl⟩
      rw [← hlf] at q0 HE
      have y0 := (HB.out.cell (p := ⟨b, k * 2, none⟩) hbl).trans q0
      clear q0 q1 q2 hc hlf hA
      go_enter Try.func61, Try.ntmps61
      go_wp2
      refine bodyPost_ret (results_tmp2 rfl _ _ _) rfl ?_
      exact ⟨two_out HE.out, HB.out⟩

set_option maxHeartbeats 2000000 in
theorem side_any (g : PG) (hf : Fit g) (P : Nat → Prop) (W : World) (v : Value) (h : PgAt P W g v) (n : Int) (hn2 : n < (g.prods.length : Int)) :
    Calls Try.prog 63 #[v, .int .i64 n] W fun e w' => ∃ u, e = .returned u ∧ Below W.heap.size W w' ∧ IntsAt P w' (sideT g n) u := by
  obtain ⟨An, At_, Ap, cn, ct, cp, rfl, hN, hT, hP⟩ := h.open_
  obtain ⟨lp, hlp⟩ : ∃ lp, lp = g.prods.length := ⟨_, rfl⟩
  obtain ⟨A2, cap, b, f, e1, hcap, hA, hc⟩ := hP
  injection e1 with e1 e2 e3
  subst e1 e3
  have h2 := hf.prods
  rw [← hlp] at h2 hA
  have HB := Lib.hid ((Below.refl W.heap.size W).alloc (Nat.le_refl _) (.cells #[.int .i64 g.start, .int .i64 g.rules, .slice An g.names.length cn, .slice At_ g.terms.length ct, .slice Ap g.prods.length cp] 31))
  have hbx := heap_alloc_new W (.cells #[.int .i64 g.start, .int .i64 g.rules, .slice An g.names.length cn, .slice At_ g.terms.length ct, .slice Ap g.prods.length cp] 31)
  rw [← hlp] at HB hbx ⊢
  have b4 := cell_of_row _ _ 4 _ _ (0, 0) hbx
  have HLP := Lib.hid hlp
  clear hbx hT hN h hlp
  by_cases hn : n < 0
  · have HE := Lib.hid (show sideT g n = [] by unfold sideT; rw [if_pos hn])
    go_enter Try.func63, Try.ntmps63
    go_wp2
    go_ret
    exact ⟨_, rfl, HB.out, by rw [HE.out]; exact IntsAt.nil _ _ _ _⟩
  · obtain ⟨k, rfl⟩ : ∃ k : Nat, n = (k : Int) := ⟨n.toNat, by omega⟩
    have hkp : k < g.prods.length := by omega
    obtain ⟨rfl, hbl, hPb⟩ := hA (by rw [HLP.out]; omega)
    obtain ⟨q0, q1, q2⟩ := hc k hkp
    have HE := Lib.hid (show sideT g (k : Int) = g.prods[k].right by unfold sideT; rw [if_neg hn, dif_pos (by simpa using hkp)]; simp)
    have hk2 : k < lp := by rw [HLP.out]; exact hkp
    have HQ := Lib.hid (q2.under HB.out)
    obtain ⟨Aq, cq, eq⟩ := q2.form
    rw [eq] at q1 HQ
    have y1 := (HB.out.cell (p := ⟨b, k * 2 + 1, none⟩) hbl).trans q1
    clear q0 q1 q2 hc eq hA
    go_enter Try.func63, Try.ntmps63
    go_wp2
    go_ret
    exact ⟨_, rfl, HB.out, by rw [HE.out]; exact HQ.out⟩
end Go.Proofs.Ytdknlifpoihnmaa.Tr
