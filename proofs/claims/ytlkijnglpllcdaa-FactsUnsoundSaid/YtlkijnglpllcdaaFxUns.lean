/-
  FactsUnsound: of a grammar of made's with any start the six calls tell nothing just where that start is none of its nonterminals.
-/
import Derived.Test.YtlkijnglpllcdaaFxMadeW
namespace Go.Proofs.Ytlkijnglpllcdaa.Fx
open Go.RowKit
set_option maxRecDepth 100000
set_option linter.unusedSimpArgs false
set_option linter.unusedVariables false

/-- So many are told. -/
def TellsN (n : Nat) (W : World) (e : Ending) (w' : World) : Prop := ∃ A c, e = .returned (.slice A n c) ∧ Below W.heap.size W w'
theorem TellsN.nil {W : World} {e : Ending} {w' : World} (h : TellsNil W e w') : TellsN 0 W e w' := h
def lenU (g : PG) : Nat := if soundB g = true then g.names.length else 0
section
variable (g : PG) (hs : g.Fits) (P : Nat → Prop) (W : World) (v : Value) (h : PgAt P W g v)
include hs h
theorem nullable_n : Calls Try.prog 14 #[v] W (TellsN (lenU g) W) := by
  unfold lenU
  cases hb : soundB g
  · rw [if_neg (by decide)]; exact nullable_none g hs hb P W v h
  · rw [if_pos rfl]
    refine (nullable_any g hs hb P W v h).mono ?_
    rintro e w' ⟨u, L, rfl, hl, ho, b⟩
    obtain ⟨A, c, rfl⟩ := Gn.slice_of ho
    exact ⟨A, c, by rw [(runs_ok hl.runs).1], b⟩
theorem generating_n : Calls Try.prog 12 #[v] W (TellsN (lenU g) W) := by
  unfold lenU
  cases hb : soundB g
  · rw [if_neg (by decide)]; exact generating_none g hs hb P W v h
  · rw [if_pos rfl]
    refine (generating_any g hs hb P W v h).mono ?_
    rintro e w' ⟨u, L, rfl, hl, ho, b⟩
    obtain ⟨A, c, rfl⟩ := Gn.slice_of ho
    exact ⟨A, c, by rw [(runs_ok hl.runs).1], b⟩
theorem reach_n : Calls Try.prog 18 #[v] W (TellsN (lenU g) W) := by
  unfold lenU
  cases hb : soundB g
  · rw [if_neg (by decide)]; exact reach_none g hs hb P W v h
  · rw [if_pos rfl]
    refine (reach_any g hs hb P W v h).mono ?_
    rintro e w' ⟨q, L, rfl, _, _, _, b⟩
    exact ⟨_, _, rfl, b⟩
theorem loops_n : Calls Try.prog 20 #[v] W (TellsN (lenU g) W) := by
  unfold lenU
  cases hb : soundB g
  · rw [if_neg (by decide)]; exact loops_none g hs hb P W v h
  · rw [if_pos rfl]
    refine (loops_any g hs hb P W v h).mono ?_
    rintro e w' ⟨_, _, q, L, rfl, _, _, _, b⟩
    exact ⟨_, _, rfl, b⟩
theorem first_n : Calls Try.prog 16 #[v] W (TellsN (lenU g) W) := by
  unfold lenU
  cases hb : soundB g
  · rw [if_neg (by decide)]; exact first_none g hs hb P W v h
  · rw [if_pos rfl]
    refine (first_any g hs hb P W v h).mono ?_
    rintro e w' ⟨_, _, q, F, R, rfl, _, _, _, b⟩
    exact ⟨_, _, rfl, b⟩
theorem short_n : Calls Try.prog 10 #[v] W (TellsN (lenU g) W) := by
  unfold lenU
  cases hb : soundB g
  · rw [if_neg (by decide)]; exact short_none g hs hb P W v h
  · rw [if_pos rfl]
    refine (shortest_any g hs hb P W v h).mono ?_
    rintro e w' ⟨q, L, rfl, _, hr, hl, b⟩
    exact ⟨_, _, by rw [(runs_ok hl.runs).1], b⟩
end

set_option maxHeartbeats 8000000 in
theorem walk_uns (N T St start : Int) (left : List Int) (right : List (List Int)) (W : World) (vl vr : Value) (hl : NumsIn W left vl) (hr : RowsIn W right vr) (hlm : left.length ≤ maxLen) (hrm : right.length ≤ maxLen) (hrm2 : ∀ r ∈ right, r.length ≤ maxLen) :
    Calls Try.prog 6 #[.agg #[.int .i64 N, .int .i64 T, .int .i64 St, vl, vr], .int .i64 start] W fun e w' => e = .returned (.bool true) ∧ Below W.heap.size W w' := by
  have HM := Lib.hid (fun w (b : Below W.heap.size W w) => made_any N T St left right w vl vr (hl.under b) (hr.under b) hlm hrm hrm2)
  have HS := Lib.hid (fun w => speaks_any w)
  obtain ⟨A, c, _, _, rfl, _⟩ := hl
  obtain ⟨Ar, cr, _, _, _, rfl, _⟩ := hr
  obtain ⟨nl, hnl⟩ : ∃ nl, nl = left.length := ⟨_, rfl⟩
  obtain ⟨nr, hnr⟩ : ∃ nr, nr = right.length := ⟨_, rfl⟩
  rw [← hnl, ← hnr] at HM ⊢
  clear hnl hnr hlm hrm hrm2
  have hb0 := (Below.refl W.heap.size W).alloc (Nat.le_refl _) (.cells #[.int .i64 N, .int .i64 T, .int .i64 St, .slice A nl c, .slice Ar nr cr] 25)
  have hx0 := heap_alloc_new W (.cells #[.int .i64 N, .int .i64 T, .int .i64 St, .slice A nl c, .slice Ar nr cr] 25)
  have HB0 := Lib.hid hb0
  have HX0 := Lib.hid hx0
  clear hb0 hx0
  go_enter Try.func6, Try.ntmps6
  go_wp2_with fail
  refine (HS.out _).mono ?_
  rintro e w1 ⟨rfl, b1⟩
  have hb1 := HB0.out.trans (b1.mono HB0.out.size)
  have hx1 := (b1.block W.heap.size (by simp)).trans HX0.out
  have HB1 := Lib.hid hb1
  have x0 := cell_of_row _ _ 0 _ _ (0, 0) hx1
  have x1 := cell_of_row _ _ 1 _ _ (0, 0) hx1
  have x2 := cell_of_row _ _ 2 _ _ (0, 0) hx1
  have x3 := cell_of_row _ _ 3 _ _ (0, 0) hx1
  have x4 := cell_of_row _ _ 4 _ _ (0, 0) hx1
  clear hb1 hx1 b1
  go_wp2_with fail
  refine (HM.out _ HB1.out).mono ?_
  rintro e w2 ⟨v, u, g, rfl, hM, hv, hu, b2⟩
  obtain ⟨An, At_, Ap, cn, ct, cp, rfl, _, _, _⟩ := hv.open_
  obtain ⟨Bn, Bt, Bp, dn, dt, dp, rfl, _, _, _⟩ := hu.open_
  have HMD := Lib.hid hM
  have HV := Lib.hid hv
  have HB2 := Lib.hid (HB1.out.trans (b2.mono HB1.out.size))
  clear hM hv hu b2
  have HPV := Lib.hid (show ∀ w, Below w2.heap.size w2 w → PgAt (fun q => w1.heap.size ≤ q) w (g.from_ start) (.agg #[.int .i64 start, .int .i64 g.rules, .slice An g.names.length cn, .slice At_ g.terms.length ct, .slice Ap g.prods.length cp]) from fun w b => by
    obtain ⟨vn, vt, vp, h1, h2, h3, h4⟩ := HV.out
    injection h1 with h1
    injection h1 with h1
    injection h1 with _ h1
    injection h1 with _ h1
    injection h1 with en h1
    injection h1 with et h1
    injection h1 with ep h1
    subst en
    subst et
    subst ep
    exact ⟨_, _, _, rfl, h2.under b, h3.under b, h4.under b⟩)
  have HF := HMD.out.fits start
  have HSD := HMD.out.sound start
  have HFEW := HMD.out.few.1
  obtain ⟨nn, hnn⟩ : ∃ nn, nn = g.names.length := ⟨_, rfl⟩
  have HNN := Lib.hid hnn
  obtain ⟨m, hm⟩ : ∃ m, m = lenU (g.from_ start) := ⟨_, rfl⟩
  have hm' : m = if soundB (g.from_ start) = true then nn else 0 := by rw [hm, hnn]; rfl
  rw [HSD] at hm'
  have C1 := Lib.hid (fun w b => nullable_n _ HF _ w _ (HPV.out w b))
  have C2 := Lib.hid (fun w b => generating_n _ HF _ w _ (HPV.out w b))
  have C3 := Lib.hid (fun w b => reach_n _ HF _ w _ (HPV.out w b))
  have C4 := Lib.hid (fun w b => loops_n _ HF _ w _ (HPV.out w b))
  have C5 := Lib.hid (fun w b => short_n _ HF _ w _ (HPV.out w b))
  have C6 := Lib.hid (fun w b => first_n _ HF _ w _ (HPV.out w b))
  rw [← hm] at C1 C2 C3 C4 C5 C6
  have hn1 : 1 ≤ nn := by omega
  rw [← hnn] at hm' C1 C2 C3 C4 C5 C6 ⊢
  clear hm hnn HSD HFEW HF
  have HV2 := Lib.hid (⟨((Below.refl w2.heap.size w2).alloc (Nat.le_refl _) _).alloc (by simp) _, (heap_alloc_old _ _ (by simp)).trans (heap_alloc_new w2 _)⟩ : Below w2.heap.size w2 ((w2.alloc (.cells #[.int .i64 start, .int .i64 g.rules, .slice An nn cn, .slice At_ g.terms.length ct, .slice Ap g.prods.length cp] 30)).alloc (.cells #[.int .i64 g.start, .int .i64 g.rules, .slice Bn nn dn, .slice Bt g.terms.length dt, .slice Bp g.prods.length dp] 33)) ∧ ((w2.alloc (.cells #[.int .i64 start, .int .i64 g.rules, .slice An nn cn, .slice At_ g.terms.length ct, .slice Ap g.prods.length cp] 30)).alloc (.cells #[.int .i64 g.start, .int .i64 g.rules, .slice Bn nn dn, .slice Bt g.terms.length dt, .slice Bp g.prods.length dp] 33)).heap[w2.heap.size]? = some (.cells #[.int .i64 start, .int .i64 g.rules, .slice An nn cn, .slice At_ g.terms.length ct, .slice Ap g.prods.length cp] 30 (0, 0)))
  rcases (show start < 0 ∨ (0 ≤ start ∧ (nn : Int) ≤ start) ∨ (0 ≤ start ∧ start < (nn : Int)) by omega) with hc | ⟨hc, hc2⟩ | ⟨hc, hc2⟩
  · obtain rfl : m = 0 := by rw [hm', if_neg (by rw [decide_eq_true_iff]; omega)]
    clear hm'
    have q0 : ¬ start ≥ 0 := by omega
    go_wp2_with fail
    refine (C1.out _ HV2.out.1).mono ?_
    rintro e w3 ⟨A3, c3, rfl, b3⟩
    have hb3 := HV2.out.1.trans (b3.mono HV2.out.1.size)
    have hx3 := (b3.block w2.heap.size (Gn.heap_lt HV2.out.2)).trans HV2.out.2
    have HB3 := Lib.hid hb3
    have HX3 := Lib.hid hx3
    have y0 := cell_of_row _ _ 0 _ _ (0, 0) hx3
    have y1 := cell_of_row _ _ 1 _ _ (0, 0) hx3
    have y2 := cell_of_row _ _ 2 _ _ (0, 0) hx3
    have y3 := cell_of_row _ _ 3 _ _ (0, 0) hx3
    have y4 := cell_of_row _ _ 4 _ _ (0, 0) hx3
    clear hb3 hx3 b3
    go_wp2_with fail
    refine (C2.out _ HB3.out).mono ?_
    rintro e w4 ⟨A4, c4, rfl, b4⟩
    have hb4 := HB3.out.trans (b4.mono HB3.out.size)
    have hx4 := (b4.block w2.heap.size (Gn.heap_lt HX3.out)).trans HX3.out
    have HB4 := Lib.hid hb4
    have HX4 := Lib.hid hx4
    have y0 := cell_of_row _ _ 0 _ _ (0, 0) hx4
    have y1 := cell_of_row _ _ 1 _ _ (0, 0) hx4
    have y2 := cell_of_row _ _ 2 _ _ (0, 0) hx4
    have y3 := cell_of_row _ _ 3 _ _ (0, 0) hx4
    have y4 := cell_of_row _ _ 4 _ _ (0, 0) hx4
    clear hb4 hx4 b4
    go_wp2_with fail
    refine (C3.out _ HB4.out).mono ?_
    rintro e w5 ⟨A5, c5, rfl, b5⟩
    have hb5 := HB4.out.trans (b5.mono HB4.out.size)
    have hx5 := (b5.block w2.heap.size (Gn.heap_lt HX4.out)).trans HX4.out
    have HB5 := Lib.hid hb5
    have HX5 := Lib.hid hx5
    have y0 := cell_of_row _ _ 0 _ _ (0, 0) hx5
    have y1 := cell_of_row _ _ 1 _ _ (0, 0) hx5
    have y2 := cell_of_row _ _ 2 _ _ (0, 0) hx5
    have y3 := cell_of_row _ _ 3 _ _ (0, 0) hx5
    have y4 := cell_of_row _ _ 4 _ _ (0, 0) hx5
    clear hb5 hx5 b5
    go_wp2_with fail
    refine (C4.out _ HB5.out).mono ?_
    rintro e w6 ⟨A6, c6, rfl, b6⟩
    have hb6 := HB5.out.trans (b6.mono HB5.out.size)
    have hx6 := (b6.block w2.heap.size (Gn.heap_lt HX5.out)).trans HX5.out
    have HB6 := Lib.hid hb6
    have HX6 := Lib.hid hx6
    have y0 := cell_of_row _ _ 0 _ _ (0, 0) hx6
    have y1 := cell_of_row _ _ 1 _ _ (0, 0) hx6
    have y2 := cell_of_row _ _ 2 _ _ (0, 0) hx6
    have y3 := cell_of_row _ _ 3 _ _ (0, 0) hx6
    have y4 := cell_of_row _ _ 4 _ _ (0, 0) hx6
    clear hb6 hx6 b6
    go_wp2_with fail
    refine (C5.out _ HB6.out).mono ?_
    rintro e w7 ⟨A7, c7, rfl, b7⟩
    have hb7 := HB6.out.trans (b7.mono HB6.out.size)
    have hx7 := (b7.block w2.heap.size (Gn.heap_lt HX6.out)).trans HX6.out
    have HB7 := Lib.hid hb7
    have HX7 := Lib.hid hx7
    have y0 := cell_of_row _ _ 0 _ _ (0, 0) hx7
    have y1 := cell_of_row _ _ 1 _ _ (0, 0) hx7
    have y2 := cell_of_row _ _ 2 _ _ (0, 0) hx7
    have y3 := cell_of_row _ _ 3 _ _ (0, 0) hx7
    have y4 := cell_of_row _ _ 4 _ _ (0, 0) hx7
    clear hb7 hx7 b7
    go_wp2_with fail
    refine (C6.out _ HB7.out).mono ?_
    rintro e w8 ⟨A8, c8, rfl, b8⟩
    have hb8 := HB7.out.trans (b8.mono HB7.out.size)
    have hx8 := (b8.block w2.heap.size (Gn.heap_lt HX7.out)).trans HX7.out
    have HB8 := Lib.hid hb8
    have HX8 := Lib.hid hx8
    have y0 := cell_of_row _ _ 0 _ _ (0, 0) hx8
    have y1 := cell_of_row _ _ 1 _ _ (0, 0) hx8
    have y2 := cell_of_row _ _ 2 _ _ (0, 0) hx8
    have y3 := cell_of_row _ _ 3 _ _ (0, 0) hx8
    have y4 := cell_of_row _ _ 4 _ _ (0, 0) hx8
    clear hb8 hx8 b8
    go_wp2
    go_ret
    exact ⟨rfl, HB2.out.trans (HB8.out.mono HB2.out.size)⟩
  · obtain rfl : m = 0 := by rw [hm', if_neg (by rw [decide_eq_true_iff]; omega)]
    clear hm'
    have q0 : start ≥ 0 := hc
    have q1 : decide (start < (nn : Int)) = false := decide_eq_false (by omega)
    go_wp2_with fail
    refine (C1.out _ HV2.out.1).mono ?_
    rintro e w3 ⟨A3, c3, rfl, b3⟩
    have hb3 := HV2.out.1.trans (b3.mono HV2.out.1.size)
    have hx3 := (b3.block w2.heap.size (Gn.heap_lt HV2.out.2)).trans HV2.out.2
    have HB3 := Lib.hid hb3
    have HX3 := Lib.hid hx3
    have y0 := cell_of_row _ _ 0 _ _ (0, 0) hx3
    have y1 := cell_of_row _ _ 1 _ _ (0, 0) hx3
    have y2 := cell_of_row _ _ 2 _ _ (0, 0) hx3
    have y3 := cell_of_row _ _ 3 _ _ (0, 0) hx3
    have y4 := cell_of_row _ _ 4 _ _ (0, 0) hx3
    clear hb3 hx3 b3
    go_wp2_with fail
    refine (C2.out _ HB3.out).mono ?_
    rintro e w4 ⟨A4, c4, rfl, b4⟩
    have hb4 := HB3.out.trans (b4.mono HB3.out.size)
    have hx4 := (b4.block w2.heap.size (Gn.heap_lt HX3.out)).trans HX3.out
    have HB4 := Lib.hid hb4
    have HX4 := Lib.hid hx4
    have y0 := cell_of_row _ _ 0 _ _ (0, 0) hx4
    have y1 := cell_of_row _ _ 1 _ _ (0, 0) hx4
    have y2 := cell_of_row _ _ 2 _ _ (0, 0) hx4
    have y3 := cell_of_row _ _ 3 _ _ (0, 0) hx4
    have y4 := cell_of_row _ _ 4 _ _ (0, 0) hx4
    clear hb4 hx4 b4
    go_wp2_with fail
    refine (C3.out _ HB4.out).mono ?_
    rintro e w5 ⟨A5, c5, rfl, b5⟩
    have hb5 := HB4.out.trans (b5.mono HB4.out.size)
    have hx5 := (b5.block w2.heap.size (Gn.heap_lt HX4.out)).trans HX4.out
    have HB5 := Lib.hid hb5
    have HX5 := Lib.hid hx5
    have y0 := cell_of_row _ _ 0 _ _ (0, 0) hx5
    have y1 := cell_of_row _ _ 1 _ _ (0, 0) hx5
    have y2 := cell_of_row _ _ 2 _ _ (0, 0) hx5
    have y3 := cell_of_row _ _ 3 _ _ (0, 0) hx5
    have y4 := cell_of_row _ _ 4 _ _ (0, 0) hx5
    clear hb5 hx5 b5
    go_wp2_with fail
    refine (C4.out _ HB5.out).mono ?_
    rintro e w6 ⟨A6, c6, rfl, b6⟩
    have hb6 := HB5.out.trans (b6.mono HB5.out.size)
    have hx6 := (b6.block w2.heap.size (Gn.heap_lt HX5.out)).trans HX5.out
    have HB6 := Lib.hid hb6
    have HX6 := Lib.hid hx6
    have y0 := cell_of_row _ _ 0 _ _ (0, 0) hx6
    have y1 := cell_of_row _ _ 1 _ _ (0, 0) hx6
    have y2 := cell_of_row _ _ 2 _ _ (0, 0) hx6
    have y3 := cell_of_row _ _ 3 _ _ (0, 0) hx6
    have y4 := cell_of_row _ _ 4 _ _ (0, 0) hx6
    clear hb6 hx6 b6
    go_wp2_with fail
    refine (C5.out _ HB6.out).mono ?_
    rintro e w7 ⟨A7, c7, rfl, b7⟩
    have hb7 := HB6.out.trans (b7.mono HB6.out.size)
    have hx7 := (b7.block w2.heap.size (Gn.heap_lt HX6.out)).trans HX6.out
    have HB7 := Lib.hid hb7
    have HX7 := Lib.hid hx7
    have y0 := cell_of_row _ _ 0 _ _ (0, 0) hx7
    have y1 := cell_of_row _ _ 1 _ _ (0, 0) hx7
    have y2 := cell_of_row _ _ 2 _ _ (0, 0) hx7
    have y3 := cell_of_row _ _ 3 _ _ (0, 0) hx7
    have y4 := cell_of_row _ _ 4 _ _ (0, 0) hx7
    clear hb7 hx7 b7
    go_wp2_with fail
    refine (C6.out _ HB7.out).mono ?_
    rintro e w8 ⟨A8, c8, rfl, b8⟩
    have hb8 := HB7.out.trans (b8.mono HB7.out.size)
    have hx8 := (b8.block w2.heap.size (Gn.heap_lt HX7.out)).trans HX7.out
    have HB8 := Lib.hid hb8
    have HX8 := Lib.hid hx8
    have y0 := cell_of_row _ _ 0 _ _ (0, 0) hx8
    have y1 := cell_of_row _ _ 1 _ _ (0, 0) hx8
    have y2 := cell_of_row _ _ 2 _ _ (0, 0) hx8
    have y3 := cell_of_row _ _ 3 _ _ (0, 0) hx8
    have y4 := cell_of_row _ _ 4 _ _ (0, 0) hx8
    clear hb8 hx8 b8
    go_wp2
    go_ret
    exact ⟨rfl, HB2.out.trans (HB8.out.mono HB2.out.size)⟩
  · obtain rfl : m = nn := by rw [hm', if_pos (by rw [decide_eq_true_iff]; exact ⟨hc, hc2⟩)]
    have hz : ((m : Int) == 0) = false := by rw [beq_eq_false_iff_ne]; omega
    clear hm'
    have q0 : start ≥ 0 := hc
    go_wp2_with fail
    refine (C1.out _ HV2.out.1).mono ?_
    rintro e w3 ⟨A3, c3, rfl, b3⟩
    have hb3 := HV2.out.1.trans (b3.mono HV2.out.1.size)
    have hx3 := (b3.block w2.heap.size (Gn.heap_lt HV2.out.2)).trans HV2.out.2
    have HB3 := Lib.hid hb3
    have HX3 := Lib.hid hx3
    have y0 := cell_of_row _ _ 0 _ _ (0, 0) hx3
    have y1 := cell_of_row _ _ 1 _ _ (0, 0) hx3
    have y2 := cell_of_row _ _ 2 _ _ (0, 0) hx3
    have y3 := cell_of_row _ _ 3 _ _ (0, 0) hx3
    have y4 := cell_of_row _ _ 4 _ _ (0, 0) hx3
    clear hb3 hx3 b3
    go_wp2_with fail
    refine (C2.out _ HB3.out).mono ?_
    rintro e w4 ⟨A4, c4, rfl, b4⟩
    have hb4 := HB3.out.trans (b4.mono HB3.out.size)
    have hx4 := (b4.block w2.heap.size (Gn.heap_lt HX3.out)).trans HX3.out
    have HB4 := Lib.hid hb4
    have HX4 := Lib.hid hx4
    have y0 := cell_of_row _ _ 0 _ _ (0, 0) hx4
    have y1 := cell_of_row _ _ 1 _ _ (0, 0) hx4
    have y2 := cell_of_row _ _ 2 _ _ (0, 0) hx4
    have y3 := cell_of_row _ _ 3 _ _ (0, 0) hx4
    have y4 := cell_of_row _ _ 4 _ _ (0, 0) hx4
    clear hb4 hx4 b4
    go_wp2_with fail
    refine (C3.out _ HB4.out).mono ?_
    rintro e w5 ⟨A5, c5, rfl, b5⟩
    have hb5 := HB4.out.trans (b5.mono HB4.out.size)
    have hx5 := (b5.block w2.heap.size (Gn.heap_lt HX4.out)).trans HX4.out
    have HB5 := Lib.hid hb5
    have HX5 := Lib.hid hx5
    have y0 := cell_of_row _ _ 0 _ _ (0, 0) hx5
    have y1 := cell_of_row _ _ 1 _ _ (0, 0) hx5
    have y2 := cell_of_row _ _ 2 _ _ (0, 0) hx5
    have y3 := cell_of_row _ _ 3 _ _ (0, 0) hx5
    have y4 := cell_of_row _ _ 4 _ _ (0, 0) hx5
    clear hb5 hx5 b5
    go_wp2_with fail
    refine (C4.out _ HB5.out).mono ?_
    rintro e w6 ⟨A6, c6, rfl, b6⟩
    have hb6 := HB5.out.trans (b6.mono HB5.out.size)
    have hx6 := (b6.block w2.heap.size (Gn.heap_lt HX5.out)).trans HX5.out
    have HB6 := Lib.hid hb6
    have HX6 := Lib.hid hx6
    have y0 := cell_of_row _ _ 0 _ _ (0, 0) hx6
    have y1 := cell_of_row _ _ 1 _ _ (0, 0) hx6
    have y2 := cell_of_row _ _ 2 _ _ (0, 0) hx6
    have y3 := cell_of_row _ _ 3 _ _ (0, 0) hx6
    have y4 := cell_of_row _ _ 4 _ _ (0, 0) hx6
    clear hb6 hx6 b6
    go_wp2_with fail
    refine (C5.out _ HB6.out).mono ?_
    rintro e w7 ⟨A7, c7, rfl, b7⟩
    have hb7 := HB6.out.trans (b7.mono HB6.out.size)
    have hx7 := (b7.block w2.heap.size (Gn.heap_lt HX6.out)).trans HX6.out
    have HB7 := Lib.hid hb7
    have HX7 := Lib.hid hx7
    have y0 := cell_of_row _ _ 0 _ _ (0, 0) hx7
    have y1 := cell_of_row _ _ 1 _ _ (0, 0) hx7
    have y2 := cell_of_row _ _ 2 _ _ (0, 0) hx7
    have y3 := cell_of_row _ _ 3 _ _ (0, 0) hx7
    have y4 := cell_of_row _ _ 4 _ _ (0, 0) hx7
    clear hb7 hx7 b7
    go_wp2_with fail
    refine (C6.out _ HB7.out).mono ?_
    rintro e w8 ⟨A8, c8, rfl, b8⟩
    have hb8 := HB7.out.trans (b8.mono HB7.out.size)
    have hx8 := (b8.block w2.heap.size (Gn.heap_lt HX7.out)).trans HX7.out
    have HB8 := Lib.hid hb8
    have HX8 := Lib.hid hx8
    have y0 := cell_of_row _ _ 0 _ _ (0, 0) hx8
    have y1 := cell_of_row _ _ 1 _ _ (0, 0) hx8
    have y2 := cell_of_row _ _ 2 _ _ (0, 0) hx8
    have y3 := cell_of_row _ _ 3 _ _ (0, 0) hx8
    have y4 := cell_of_row _ _ 4 _ _ (0, 0) hx8
    clear hb8 hx8 b8
    go_wp2
    go_ret
    exact ⟨rfl, HB2.out.trans (HB8.out.mono HB2.out.size)⟩
end Go.Proofs.Ytlkijnglpllcdaa.Fx
