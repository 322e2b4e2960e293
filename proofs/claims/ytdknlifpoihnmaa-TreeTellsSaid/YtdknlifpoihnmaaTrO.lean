/-
  Layer 14: the document's Sound on a grammar that the law makes.
-/
import Derived.Test.YtdknlifpoihnmaaTrN
namespace Go.Proofs.Ytdknlifpoihnmaa.Tr
open Go.RowKit
open Gn (Asks)
open Fx (IntsAt StrsAt Prd PG PrdsAt PgAt PgBox Made letter sortedB sorted_step)
set_option maxRecDepth 100000
set_option linter.unusedSimpArgs false
set_option linter.unusedVariables false

theorem order_at : ∀ (l : List Prd), sortedB l = true → ∀ (k : Nat) (h : k + 1 < l.length), l[k].left ≤ l[k + 1].left
  | [], _, k, h => absurd h (by simp)
  | [a], _, k, h => absurd h (by simp)
  | a :: b :: r, hs, k, h => by
    rw [sortedB, Bool.and_eq_true] at hs
    cases k with
    | zero => exact of_decide_eq_true hs.1
    | succ k => exact order_at (b :: r) hs.2 k (by simpa using h)
set_option maxHeartbeats 16000000 in
theorem rsound_any (g : PG) (hM : Made g) (P : Nat → Prop) (W : World) (v : Value) (h : PgAt P W g v) :
    Calls Try.prog 49 #[v] W fun e w' => e = .returned (.bool true) ∧ Below W.heap.size W w' := by
  obtain ⟨An, At_, Ap, cn, ct, cp, rfl, hN, hT, hP⟩ := h.open_
  have hbb : Below W.heap.size W (W.alloc (.cells #[.int .i64 g.start, .int .i64 g.rules, .slice An g.names.length cn, .slice At_ g.terms.length ct, .slice Ap g.prods.length cp] 34)) := (Below.refl _ _).alloc (Nat.le_refl _) _
  have hbx := heap_alloc_new W (.cells #[.int .i64 g.start, .int .i64 g.rules, .slice An g.names.length cn, .slice At_ g.terms.length ct, .slice Ap g.prods.length cp] 34)
  have ha1 : Alone g.names := alone_of (.inl rfl) (by have := hM.few; omega) hM.names
  have ha2 : Alone g.terms := alone_of (.inr rfl) (by have := hM.few; omega) hM.terms
  obtain ⟨V, hV⟩ : ∃ V, V = W.alloc (.cells #[.int .i64 g.start, .int .i64 g.rules, .slice An g.names.length cn, .slice At_ g.terms.length ct, .slice Ap g.prods.length cp] 34) := ⟨_, rfl⟩
  have HV := Lib.hid hV
  rw [← hV] at hbb hbx
  have hA1 := apart_any g.names ha1 65536 (by decide) _ V _ (hN.under hbb)
  have hA2 := apart_any g.terms ha2 16 (by decide) _ V _ (hT.under hbb)
  rw [hM.rules] at hbx HV
  obtain ⟨n, hn⟩ : ∃ n, n = g.names.length := ⟨_, rfl⟩
  obtain ⟨np, hnp⟩ : ∃ np, np = g.prods.length := ⟨_, rfl⟩
  obtain ⟨lt, hlt⟩ : ∃ lt, lt = g.terms.length := ⟨_, rfl⟩
  obtain ⟨st, hst⟩ : ∃ st, st = g.start := ⟨_, rfl⟩
  have hf1 := hM.few
  have hf2 := hM.start
  have hru := hM.rules
  rw [← hn, ← hlt, ← hnp] at hf1
  rw [← hst, ← hn] at hf2
  rw [hru, ← hn, ← hnp, ← hlt, ← hst]
  rw [← hn, ← hnp, ← hlt, ← hst] at hbx HV
  rw [← hnp] at hP
  rw [← hn] at hA1
  rw [← hlt] at hA2
  have s1 : ¬ (n : Int) < 1 := by omega
  have s2 : ¬ (256 : Int) < (n : Int) := by omega
  have s3 : ¬ (n : Int) < 0 := by omega
  have s4 : ¬ (n : Int) < (n : Int) := by omega
  have s5 : ¬ (256 : Int) < (lt : Int) := by omega
  have s6 : ¬ (256 : Int) < (np : Int) := by omega
  have s7 : ¬ st < 0 := by omega
  have s8 : ¬ (n : Int) ≤ st := by omega
  have hnp3 : np ≤ 192 := by omega
  have hlt3 : lt ≤ 3 := by omega
  have hneg : IntKind.i64.wrap (-(lt : Int)) = -(lt : Int) := IntWalk.i64_in _ (by omega)
  have HNG := Lib.hid hneg
  have HM := Lib.hid hM
  have HP := Lib.hid hP
  have HNN := Lib.hid hn
  have HNP := Lib.hid hnp
  have HLT := Lib.hid hlt
  have HA1 := Lib.hid hA1
  have HA2 := Lib.hid hA2
  have b0 := cell_of_row _ _ 0 _ _ (0, 0) hbx
  have b1 := cell_of_row _ _ 1 _ _ (0, 0) hbx
  have b2 := cell_of_row _ _ 2 _ _ (0, 0) hbx
  have b3 := cell_of_row _ _ 3 _ _ (0, 0) hbx
  have b4 := cell_of_row _ _ 4 _ _ (0, 0) hbx
  have HBX := Lib.hid hbx
  have HBB := Lib.hid hbb
  clear hneg h hN hT hP hbb hbx hM hn hnp hlt hst hru hA1 hA2 ha1 ha2 hf1 hf2 hV
  go_enter Try.func49, Try.ntmps49
  go_upto_region 1 with fail
  rw [← HV.out]
  go_wp2_with fail
  refine HA1.out.mono ?_
  rintro e w2 ⟨rfl, rfl⟩
  go_wp2_with fail
  refine HA2.out.mono ?_
  rintro e w2 ⟨rfl, rfl⟩
  go_wp2_with fail
  clear b0 b1 b2 b3 b4 s1 s2 s3 s4 s5 s6 s7 s8 HA1 HA2
  go_loopw [4] (fun x wr => ∃ k : Nat, k ≤ np ∧ x = .int .i64 k ∧ Below W.heap.size W wr ∧ wr.heap[W.heap.size]? = some (.cells #[.int .i64 st, .int .i64 n, .slice An n cn, .slice At_ lt ct, .slice Ap np cp] 34 (0, 0))) (fun x _ => np - (intOf x).toNat)
  case atStart => exact ⟨0, Nat.zero_le _, rfl, HBB.out, HBX.out⟩
  case round =>
    obtain ⟨k, hk, rfl, hb, hx⟩ := hrel
    obtain ⟨wo, rfl⟩ : ∃ wo : World, wo = wr := ⟨_, rfl⟩
    have c4 : wo.cell? ⟨W.heap.size, 4, none⟩ = some (.slice Ap np cp) := cell_of_row _ _ 4 _ _ (0, 0) hx
    have HB := Lib.hid hb
    have HX := Lib.hid hx
    by_cases hlt : k < np
    · have h1 : k < g.prods.length := by rw [← HNP.out]; exact hlt
      obtain ⟨A', cap', bb, f, e1, _, e3, e4⟩ := HP.out
      injection e1 with e1 e6 e5
      subst e1
      subst e5
      obtain ⟨eA, hr, _⟩ := e3 (by omega)
      subst eA
      obtain ⟨x0, x1, xi⟩ := e4 k h1
      have hmem : g.prods[k] ∈ g.prods := List.getElem_mem h1
      obtain ⟨lf0, lf1⟩ := HM.out.left _ hmem
      have hsh := HM.out.short _ hmem
      have hkn := HM.out.known _ hmem
      rw [← HNN.out] at lf1 hkn
      rw [← HLT.out] at hkn
      have hpre : ∀ k1, k = k1 + 1 → ∃ y, wo.cell? ⟨bb, k1 * 2, none⟩ = some (.int .i64 y) ∧ ¬ g.prods[k].left < y := fun k1 e => by
        subst e
        exact ⟨_, (hb.cell (p := ⟨bb, k1 * 2, none⟩) hr).trans (e4 k1 (by omega)).1, by have := order_at g.prods HM.out.order k1 h1; omega⟩
      obtain ⟨p, hp⟩ : ∃ p, p = g.prods[k] := ⟨_, rfl⟩
      rw [← hp] at x0 xi lf0 lf1 hsh hkn hpre
      have X0 := (hb.cell (p := ⟨bb, k * 2, none⟩) hr).trans x0
      have X1 := (hb.cell (p := ⟨bb, k * 2 + 1, none⟩) hr).trans x1
      obtain ⟨Ax, cx, bx, hxs, _, hx3, hx4⟩ := xi
      rw [hxs] at X1
      obtain ⟨m, hm⟩ : ∃ m, m = p.right.length := ⟨_, rfl⟩
      obtain ⟨lf, hlf⟩ : ∃ lf, lf = p.left := ⟨_, rfl⟩
      rw [← hm] at X1 hx3 hsh
      rw [← hlf] at X0 lf0 lf1 hpre
      have hb2 := hb.alloc hb.size (.cells #[.int .i64 lf, .slice Ax m cx] 78)
      have hx2 := heap_alloc_new wo (.cells #[.int .i64 lf, .slice Ax m cx] 78)
      have hg2 := (heap_alloc_old wo (.cells #[.int .i64 lf, .slice Ax m cx] 78) (Gn.heap_lt hx)).trans hx
      have hq2 : ∀ k1, k = k1 + 1 → ∃ y, (wo.alloc (.cells #[.int .i64 lf, .slice Ax m cx] 78)).cell? ⟨bb, k1 * 2, none⟩ = some (.int .i64 y) ∧ ¬ lf < y := fun k1 e => by
        obtain ⟨y, y1, y2⟩ := hpre k1 e
        exact ⟨y, (((Below.refl wo.heap.size wo).alloc (Nat.le_refl _) _).cell (p := ⟨bb, k1 * 2, none⟩) (Nat.lt_of_lt_of_le hr hb.size)).trans y1, y2⟩
      have HX3 := Lib.hid hx3
      have HX4 := Lib.hid hx4
      have HM2 := Lib.hid hm
      have HKN := Lib.hid hkn
      have HB2 := Lib.hid hb2
      have HX2 := Lib.hid hx2
      have HG2 := Lib.hid hg2
      have HQ2 := Lib.hid hq2
      have hlt2 : (k : Int) < (np : Int) := by omega
      have t1 : ¬ lf < 0 := by omega
      have t2 : ¬ (n : Int) ≤ lf := by omega
      have t3 : ¬ (16 : Int) < (m : Int) := by omega
      clear e6 e3 e4 hxs hx3 hx4 x0 x1 hp hmem hkn hm hlf lf0 lf1 hb hx hb2 hx2 hg2 hq2 hpre
      go_upto_region 8 with fail
      generalize hV2 : World.alloc wo _ = V2
      rw [hV2] at HB2 HX2 HG2 HQ2
      have d0 : V2.cell? ⟨wo.heap.size, 0, none⟩ = some (.int .i64 lf) := cell_of_row _ _ 0 _ _ (0, 0) HX2.out
      have d1 : V2.cell? ⟨wo.heap.size, 1, none⟩ = some (.slice Ax m cx) := cell_of_row _ _ 1 _ _ (0, 0) HX2.out
      have c4' : V2.cell? ⟨W.heap.size, 4, none⟩ = some (.slice (some ⟨bb, 0, none⟩) np cp) := cell_of_row _ _ 4 _ _ (0, 0) HG2.out
      clear hV2 c4 X0 X1
      rcases Nat.eq_zero_or_pos k with hk0 | hk0
      · subst hk0
        go_quiet (fail)
        go_wp2_with fail
        go_loopw [6] (fun x w5 => ∃ j : Nat, j ≤ m ∧ x = .int .i64 j ∧ Below V2.heap.size V2 w5) (fun x _ => m - (intOf x).toNat)
        case atStart => exact ⟨0, Nat.zero_le _, rfl, Gn.below_drewN (Below.refl _ _) _⟩
        case round =>
          obtain ⟨j, hj, rfl, h5⟩ := hrel
          have H5 := Lib.hid (HB2.out.trans (h5.mono HB2.out.size))
          have G5 := Lib.hid ((h5.block _ (Gn.heap_lt HG2.out)).trans HG2.out)
          have d1 : wr.cell? ⟨wo.heap.size, 1, none⟩ = some (.slice Ax m cx) := cell_of_row _ _ 1 _ _ (0, 0) ((h5.block _ (Gn.heap_lt HX2.out)).trans HX2.out)
          have c3 : wr.cell? ⟨W.heap.size, 3, none⟩ = some (.slice At_ lt ct) := cell_of_row _ _ 3 _ _ (0, 0) G5.out
          have H6 := Lib.hid h5
          clear h5
          by_cases hjm : j < m
          · have hjm2 : (j : Int) < (m : Int) := by omega
            have hjl : j < p.right.length := by rw [← HM2.out]; exact hjm
            obtain ⟨eX, hxb, _⟩ := HX3.out (by omega)
            subst eX
            have q2 := (H5.out.cell (p := ⟨bx, j, none⟩) hxb).trans (HX4.out j hjl)
            obtain ⟨k0, k1'⟩ := HKN.out _ (List.getElem_mem hjl)
            obtain ⟨s, hs⟩ : ∃ s, s = p.right[j] := ⟨_, rfl⟩
            rw [← hs] at q2 k0 k1'
            have z1 : ¬ (n : Int) ≤ s := by omega
            have z2 : ¬ s < IntKind.i64.wrap (-(lt : Int)) := by rw [HNG.out]; omega
            have z3 : ¬ s < -(lt : Int) := by omega
            clear hs
            go_wp2_with fail
            go_quiet (fail)
            go_wp2_with fail
            go_roundw
            case rel => exact ⟨j + 1, by omega, by simp, Gn.below_drewN H6.out _⟩
            case measure => simp [intOf]; omega
          · have hje : m = j := by omega
            subst hje
            have hlt4 : ¬ ((m : Nat) : Int) < ((m : Nat) : Int) := by omega
            go_wp2_with fail
            go_roundw
            case rel => exact ⟨0 + 1, by omega, by simp, H5.out, G5.out⟩
            case measure => simp [intOf]; omega
      · obtain ⟨k1, rfl⟩ : ∃ k1, k = k1 + 1 := ⟨k - 1, by omega⟩
        obtain ⟨y, y1, y2⟩ := HQ2.out k1 rfl
        have hk1 : ((k1 + 1 : Nat) : Int) - 1 = (k1 : Int) := by omega
        have hkp : (0 : Int) < ((k1 + 1 : Nat) : Int) := by omega
        go_quiet (fail)
        go_wp2_with fail
        go_loopw [6] (fun x w5 => ∃ j : Nat, j ≤ m ∧ x = .int .i64 j ∧ Below V2.heap.size V2 w5) (fun x _ => m - (intOf x).toNat)
        case atStart => exact ⟨0, Nat.zero_le _, rfl, Gn.below_drewN (Below.refl _ _) _⟩
        case round =>
          obtain ⟨j, hj, rfl, h5⟩ := hrel
          have H5 := Lib.hid (HB2.out.trans (h5.mono HB2.out.size))
          have G5 := Lib.hid ((h5.block _ (Gn.heap_lt HG2.out)).trans HG2.out)
          have d1 : wr.cell? ⟨wo.heap.size, 1, none⟩ = some (.slice Ax m cx) := cell_of_row _ _ 1 _ _ (0, 0) ((h5.block _ (Gn.heap_lt HX2.out)).trans HX2.out)
          have c3 : wr.cell? ⟨W.heap.size, 3, none⟩ = some (.slice At_ lt ct) := cell_of_row _ _ 3 _ _ (0, 0) G5.out
          have H6 := Lib.hid h5
          clear h5
          by_cases hjm : j < m
          · have hjm2 : (j : Int) < (m : Int) := by omega
            have hjl : j < p.right.length := by rw [← HM2.out]; exact hjm
            obtain ⟨eX, hxb, _⟩ := HX3.out (by omega)
            subst eX
            have q2 := (H5.out.cell (p := ⟨bx, j, none⟩) hxb).trans (HX4.out j hjl)
            obtain ⟨k0, k1'⟩ := HKN.out _ (List.getElem_mem hjl)
            obtain ⟨s, hs⟩ : ∃ s, s = p.right[j] := ⟨_, rfl⟩
            rw [← hs] at q2 k0 k1'
            have z1 : ¬ (n : Int) ≤ s := by omega
            have z2 : ¬ s < IntKind.i64.wrap (-(lt : Int)) := by rw [HNG.out]; omega
            have z3 : ¬ s < -(lt : Int) := by omega
            clear hs
            go_wp2_with fail
            go_quiet (fail)
            go_wp2_with fail
            go_roundw
            case rel => exact ⟨j + 1, by omega, by simp, Gn.below_drewN H6.out _⟩
            case measure => simp [intOf]; omega
          · have hje : m = j := by omega
            subst hje
            have hlt4 : ¬ ((m : Nat) : Int) < ((m : Nat) : Int) := by omega
            go_wp2_with fail
            go_roundw
            case rel => exact ⟨k1 + 1 + 1, by omega, by simp, H5.out, G5.out⟩
            case measure => simp [intOf]; omega
    · have hke : np = k := by omega
      subst hke
      have hlt2 : ¬ ((np : Nat) : Int) < ((np : Nat) : Int) := by omega
      clear hb hx
      go_wp2_with fail
      go_ret
      exact ⟨rfl, HB.out⟩
end Go.Proofs.Ytdknlifpoihnmaa.Tr
