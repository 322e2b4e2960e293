/-
  Layer 14: the document's There and Root.
-/
import Derived.Test.YtjlppffkacimoaaTrBk
namespace Go.Proofs.Ytjlppffkacimoaa.Tr
open Go.RowKit
open Gn (Asks)
open Fx (IntsAt StrsAt Prd PG PrdsAt PgAt)
set_option maxRecDepth 100000
set_option linter.unusedSimpArgs false
set_option linter.unusedVariables false

theorem there_any (g : PG) (hf : Fit g) (P : Nat → Prop) (W : World) (v : Value) (h : PgAt P W g v) (n : Int) (hn1 : -9007199254740992 ≤ n) (hn2 : n ≤ 9007199254740992) :
    Calls Try.prog 33 #[v, .int .i64 n] W (Asks (rootT g n).2 W) := by
  obtain ⟨An, At_, Ap, cn, ct, cp, rfl, hN, hT, hP⟩ := h.open_
  obtain ⟨lt, hlt⟩ : ∃ lt, lt = g.terms.length := ⟨_, rfl⟩
  obtain ⟨lp, hlp⟩ : ∃ lp, lp = g.prods.length := ⟨_, rfl⟩
  have h1 := hf.terms
  have h2 := hf.prods
  rw [← hlt] at h1
  rw [← hlp] at h2
  have HB := Lib.hid ((Below.refl W.heap.size W).alloc (Nat.le_refl _) (.cells #[.int .i64 g.start, .int .i64 g.rules, .slice An g.names.length cn, .slice At_ g.terms.length ct, .slice Ap g.prods.length cp] 34))
  have hbx := heap_alloc_new W (.cells #[.int .i64 g.start, .int .i64 g.rules, .slice An g.names.length cn, .slice At_ g.terms.length ct, .slice Ap g.prods.length cp] 34)
  rw [← hlt, ← hlp] at HB hbx ⊢
  have b3 := cell_of_row _ _ 3 _ _ (0, 0) hbx
  have b4 := cell_of_row _ _ 4 _ _ (0, 0) hbx
  obtain ⟨rb, hrb⟩ : ∃ rb, rb = (rootT g n).2 := ⟨_, rfl⟩
  rw [← hrb]
  have hrt : rb = if n < 0 then decide (-1 - n < (lt : Int)) else decide (n < (lp : Int)) := by
    rw [hrb]
    unfold rootT
    split
    · rw [← hlt]
      exact decide_eq_decide.2 (by omega)
    · split
      · rename_i h5 h6
        exact (decide_eq_true (by omega)).symm
      · rename_i h5 h6
        exact (decide_eq_false (by omega)).symm
  have HRT := Lib.hid hrt
  clear hbx hT hN hP h hlt hlp hrb hrt
  by_cases hn : n < 0
  · have hw : wrap64 (-1 - n) = -1 - n := by unfold wrap64; omega
    have HQ := Lib.hid (show rb = decide (-1 - n < (lt : Int)) by rw [HRT.out, if_pos hn])
    clear HRT
    go_enter Try.func33, Try.ntmps33
    go_wp2_with fail
    go_ret
    rw [HQ.out]
    exact ⟨rfl, HB.out⟩
  · have HQ := Lib.hid (show rb = decide (n < (lp : Int)) by rw [HRT.out, if_neg hn])
    clear HRT
    go_enter Try.func33, Try.ntmps33
    go_wp2_with fail
    go_ret
    rw [HQ.out]
    exact ⟨rfl, HB.out⟩
theorem root_any (g : PG) (hf : Fit g) (P : Nat → Prop) (W : World) (v : Value) (h : PgAt P W g v) (n : Int) (hn1 : (rootT g n).2 = true) :
    Calls Try.prog 34 #[v, .int .i64 n] W fun e w' => e = .returned (.int .i64 (rootT g n).1) ∧ Below W.heap.size W w' := by
  obtain ⟨An, At_, Ap, cn, ct, cp, rfl, hN, hT, hP⟩ := h.open_
  obtain ⟨lp, hlp⟩ : ∃ lp, lp = g.prods.length := ⟨_, rfl⟩
  obtain ⟨A2, cap, b, f, e1, hcap, hA, hc⟩ := hP
  injection e1 with e1 e2 e3
  subst e1 e3
  have h2 := hf.prods
  rw [← hlp] at h2 hA
  have HB := Lib.hid ((Below.refl W.heap.size W).alloc (Nat.le_refl _) (.cells #[.int .i64 g.start, .int .i64 g.rules, .slice An g.names.length cn, .slice At_ g.terms.length ct, .slice Ap g.prods.length cp] 34))
  have hbx := heap_alloc_new W (.cells #[.int .i64 g.start, .int .i64 g.rules, .slice An g.names.length cn, .slice At_ g.terms.length ct, .slice Ap g.prods.length cp] 34)
  rw [← hlp] at HB hbx ⊢
  have b4 := cell_of_row _ _ 4 _ _ (0, 0) hbx
  have HLP := Lib.hid hlp
  clear hbx hT hN h hlp
  by_cases hn : n < 0
  · have HE := Lib.hid (show (rootT g n).1 = n by unfold rootT; rw [if_pos hn])
    go_enter Try.func34, Try.ntmps34
    go_wp2_with fail
    go_ret
    rw [HE.out]
    exact ⟨rfl, HB.out⟩
  · obtain ⟨k, rfl⟩ : ∃ k : Nat, n = (k : Int) := ⟨n.toNat, by omega⟩
    have hkp : k < g.prods.length := by
      unfold rootT at hn1
      rw [if_neg hn] at hn1
      split at hn1
      · rename_i h5; simpa using h5
      · cases hn1
    obtain ⟨rfl, hbl, hPb⟩ := hA (by rw [HLP.out]; omega)
    obtain ⟨q0, q1, q2⟩ := hc k hkp
    have HE := Lib.hid (show (rootT g (k : Int)).1 = g.prods[k].left by unfold rootT; rw [if_neg hn, dif_pos (by simpa using hkp)]; simp)
    have hk2 : k < lp := by rw [HLP.out]; exact hkp
    obtain ⟨lf, hlf⟩ : ∃ lf, lf = g.prods[k].left := ⟨_, rfl⟩
    rw [← hlf] at q0 HE
    have y0 := (HB.out.cell (p := ⟨b, k * 2, none⟩) hbl).trans q0
    clear q0 q1 q2 hc hlf hA hn1
    go_enter Try.func34, Try.ntmps34
    go_wp2_with fail
    go_ret
    rw [HE.out]
    exact ⟨rfl, HB.out⟩
end Go.Proofs.Ytjlppffkacimoaa.Tr
