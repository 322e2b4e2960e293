/-
  Layer 14: the document's Replay.
-/
import Derived.Test.YtjlppffkacimoaaTrP
namespace Go.Proofs.Ytjlppffkacimoaa.Tr
open Go.RowKit
open Gn (Asks)
open Fx (IntsAt StrsAt Prd PG PrdsAt PgAt PgBox Made run_append_ints)
set_option maxRecDepth 100000
set_option linter.unusedSimpArgs false
set_option linter.unusedVariables false

theorem wpList_append_tail {ops : Array Oper} {rest : List Oper} {o : Oper} {a : Act} {Q : Exit → Act → World → Prop} (w : World) (hgd : o.guard = none) (s x : Operand)
    (ho : o.op = .call { callee := .builtin .append, args := #[s, x], argTypes := #[22, 22] })
    (base : Nat) (v : Value) (n : Nat) (xs : List Value) (hs : a.eval s = v) (hown : w.ownsRow base 3 1 v n xs) (b off m c : Nat) (l : List Int) (hx : a.eval x = .slice (some ⟨b, off, none⟩) m c) (hl : l.length = m)
    (hc : ∀ (j : Nat) (h : j < l.length), w.cell? ⟨b, off + j, none⟩ = some (.int .i64 l[j])) (hm : n + l.length ≤ 8796093022208) (hb : base ≤ w.heap.size)
    (h : ∀ v' w', w'.ownsRow base 3 1 v' (n + l.length) (xs ++ l.map (Value.int .i64)) → w.grownBy w' v.ownBlock → wpList Try.prog ops Q rest (a.put o.dst v') w') : wpList Try.prog ops Q (o :: rest) a w := by
  obtain ⟨i0, hi0, hz0, hz1, hz2⟩ := info_parts Fx.iinfo
  subst hl
  refine wpList_append_own (P := Try.prog) w hgd s x 22 ho base 3 i0 (.int .i64 0) 1 8 Try.underlying22 hi0 hz0 hz1 hz2 rfl (by decide) v n xs hs hown ⟨b, off, none⟩ l.length c (l.map (Value.int .i64)) hx (by simp) (fun j u hj => ?_) (by simp [Value.oneCell']) (by unfold maxLen; omega) (by omega) hb (fun v' w' h1 h2 _ => h v' w' h1 h2)
  obtain ⟨h0, hj2⟩ : ∃ h0 : j < l.length, Value.int .i64 l[j] = u := by
    rw [List.getElem?_map] at hj
    rcases Nat.lt_or_ge j l.length with h0 | h0
    · rw [List.getElem?_eq_getElem h0] at hj; exact ⟨h0, by injection hj⟩
    · rw [List.getElem?_eq_none h0] at hj; cases hj
  have e : (⟨b, off, none⟩ : Addr).add j = ⟨b, off + j, none⟩ := by
    unfold Addr.add
    split
    · rename_i h; subst h; rfl
    · rfl
  rw [e, ← hj2]
  exact hc j h0
theorem cell_dN {w : World} {a : Addr} {v : Value} (h : w.cell? a = some v) (N : Nat) : (w.drewN N).cell? a = some v :=
  ((Gn.below_drewN (Below.refl w.heap.size w) N).cell (World.block_lt_of_cell? w a h)).trans h
theorem setCells2 {w : World} {b : Nat} {z0 z1 c0 c1 : Value} {T : TypeId} (h : w.heap[b]? = some (.cells #[z0, z1] T (0, 0))) :
    (w.setCells b 0 [c0, c1]).heap[b]? = some (.cells #[c0, c1] T (0, 0)) ∧ (∀ k, b ≠ k → (w.setCells b 0 [c0, c1]).heap[k]? = w.heap[k]?) ∧ (∀ c, c ≤ b → Below c w (w.setCells b 0 [c0, c1])) ∧ (w.setCells b 0 [c0, c1]).heap.size = w.heap.size := by
  have e : w.setCells b 0 [c0, c1] = (w.setCell ⟨b, 0, none⟩ c0).setCell ⟨b, 1, none⟩ c1 := rfl
  rw [e]
  refine ⟨?_, fun k hk => ?_, fun c hc => ?_, by simp [World.setCell]⟩
  · exact Gn.heap_set (Gn.heap_set h 0 c0) 1 c1
  · rw [Gn.set_keep _ _ _ hk, Gn.set_keep _ _ _ hk]
  · exact ((Below.refl c w).setCell hc _).setCell hc _
/-- A store of a struct of two cells into its own box, in a region that draws. -/
theorem step_store_two {ops : Array Oper} {o : Oper} {a : Act} {K : Act → World → Prop} {Q : Exit → Act → World → Prop} {E : Prop} (w : World) (hgd : o.guard = none) (ty : TypeId) (x y : Operand) (ho : o.op = .store ty x y)
    (b : Nat) (c0 c1 z0 z1 : Value) (T : TypeId) (hx : a.eval x = .pointer (some ⟨b, 0, none⟩)) (hy : a.eval y = .agg #[c0, c1]) (hb : w.heap[b]? = some (.cells #[z0, z1] T (0, 0)))
    (hi : (Try.prog.info? ty).map (·.size) = some 2) (h1 : #[c0, c1].all (·.oneCell') = true)
    (h : ∀ w', w'.heap[b]? = some (.cells #[c0, c1] T (0, 0)) → (∀ k, b ≠ k → w'.heap[k]? = w.heap[k]?) → (∀ c, c ≤ b → Below c w w') → w'.heap.size = w.heap.size → K (a.put o.dst undef) w') :
    if Region.wanted o (yielded ops a.tmps) = true then Oper.wp Try.prog o a w K Q else E := by
  have hw : Region.wanted o (yielded ops a.tmps) = true := by simp [Region.wanted, hgd]
  rw [if_pos hw]
  obtain ⟨q1, q2, q3, q4⟩ := setCells2 (c0 := c0) (c1 := c1) hb
  refine wp_store_mid (P := Try.prog) ty x y ho b 0 #[c0, c1] hx hy (fun j hj => ⟨?_, Gn.frozen_row hb _⟩) hi h1 (h _ q1 q2 q3 q4)
  have hj : j < 2 := hj
  rw [cell_of_row _ _ (0 + j) _ _ (0, 0) hb]
  rw [Nat.zero_add]
  match j, hj with
  | 0, _ => rfl
  | 1, _ => rfl
theorem cell_da {w : World} {a : Addr} {v : Value} (h : w.cell? a = some v) (N : Nat) (o : Obj) : ((w.drewN N).alloc o).cell? a = some v :=
  (((Gn.below_drewN (Below.refl w.heap.size w) N).alloc (Gn.below_drewN (Below.refl w.heap.size w) N).size o).cell (World.block_lt_of_cell? w a h)).trans h
set_option maxHeartbeats 16000000 in
theorem rreplay_any (g : PG) (hM : Made g) (s : Int) (l : List Int) (hl : l.length ≤ 1099511627776) (P Q : Nat → Prop) (W : World) (v u : Value) (h : PgAt P W g v) (hu : IntsAt Q W l u) :
    Calls Try.prog 30 #[v, .int .i64 s, u] W fun e w' => Played W.heap.size (replayR g s l) e w' ∧ Below W.heap.size W w' := by
  obtain ⟨An, At_, Ap, cn, ct, cp, rfl, hN, hT, hP⟩ := h.open_
  have hbb : Below W.heap.size W (W.alloc (.cells #[.int .i64 g.start, .int .i64 g.rules, .slice An g.names.length cn, .slice At_ g.terms.length ct, .slice Ap g.prods.length cp] 34)) := (Below.refl _ _).alloc (Nat.le_refl _) _
  have hbx := heap_alloc_new W (.cells #[.int .i64 g.start, .int .i64 g.rules, .slice An g.names.length cn, .slice At_ g.terms.length ct, .slice Ap g.prods.length cp] 34)
  obtain ⟨V, hV⟩ : ∃ V, V = W.alloc (.cells #[.int .i64 g.start, .int .i64 g.rules, .slice An g.names.length cn, .slice At_ g.terms.length ct, .slice Ap g.prods.length cp] 34) := ⟨_, rfl⟩
  have HV := Lib.hid hV
  rw [← hV] at hbb hbx
  have hS := rsound_any g hM _ V _ (h.under hbb)
  have hVz : V.heap.size = W.heap.size + 1 := by rw [hV]; simp
  obtain ⟨A, cap, ub, rfl, hcap, hu3, hu4⟩ := hu
  obtain ⟨n, hn⟩ : ∃ n, n = g.names.length := ⟨_, rfl⟩
  obtain ⟨np, hnp⟩ : ∃ np, np = g.prods.length := ⟨_, rfl⟩
  obtain ⟨lt, hlt⟩ : ∃ lt, lt = g.terms.length := ⟨_, rfl⟩
  obtain ⟨st, hst⟩ : ∃ st, st = g.start := ⟨_, rfl⟩
  obtain ⟨ru, hru⟩ : ∃ ru, ru = g.rules := ⟨_, rfl⟩
  obtain ⟨ln, hln⟩ : ∃ ln, ln = l.length := ⟨_, rfl⟩
  have hf1 := hM.few
  rw [← hn, ← hlt, ← hnp] at hf1
  rw [← hn, ← hnp, ← hlt, ← hst, ← hru] at hbx HV hS ⊢
  rw [← hnp] at hP
  rw [← hln] at hcap hu3 hl ⊢
  obtain ⟨R, hR⟩ : ∃ R, R = replayR g s l := ⟨_, rfl⟩
  rw [← hR]
  have hlt3 : lt ≤ 3 := by omega
  have hnn8 : n ≤ 8 := by omega
  have hneg : IntKind.i64.wrap (-(lt : Int)) = -(lt : Int) := IntWalk.i64_in _ (by omega)
  have HNG := Lib.hid hneg
  have HR := Lib.hid (show R = if s < -(lt : Int) ∨ (n : Int) ≤ s then .error 1 else playR g [s] l by rw [hR, hn, hlt]; rfl)
  have hnp3 : np ≤ 192 := by omega
  have HM := Lib.hid hM
  have HP := Lib.hid hP
  have HNN := Lib.hid hn
  have HNP := Lib.hid hnp
  have HLT := Lib.hid hlt
  have HLN := Lib.hid hln
  have HU3 := Lib.hid hu3
  have HU4 := Lib.hid hu4
  have HS := Lib.hid hS
  have HVZ := Lib.hid hVz
  have HBX := Lib.hid hbx
  have HBB := Lib.hid hbb
  clear h hN hT hP hbb hbx hM hn hnp hlt hst hru hf1 hV hS hVz hneg hR hln hu3 hu4
  go_enter Try.func30, Try.ntmps30
  go_upto_region 1 with fail
  rw [← HV.out]
  have b0 := cell_of_row _ _ 0 _ _ (0, 0) HBX.out
  have b1 := cell_of_row _ _ 1 _ _ (0, 0) HBX.out
  have b2 := cell_of_row _ _ 2 _ _ (0, 0) HBX.out
  have b3 := cell_of_row _ _ 3 _ _ (0, 0) HBX.out
  have b4 := cell_of_row _ _ 4 _ _ (0, 0) HBX.out
  go_wp2_with fail
  refine HS.out.mono ?_
  rintro e w1 ⟨rfl, hw1⟩
  have hx1 := (hw1.block _ (Gn.heap_lt HBX.out)).trans HBX.out
  have HX1 := Lib.hid hx1
  have HB1 := Lib.hid (HBB.out.trans (hw1.mono HBB.out.size))
  have hz1 : W.heap.size < w1.heap.size := Gn.heap_lt hx1
  clear b0 b1 b2 b3 b4 hw1 HS
  have b2 := cell_of_row _ _ 2 _ _ (0, 0) hx1
  have b3 := cell_of_row _ _ 3 _ _ (0, 0) hx1
  clear hx1
  by_cases hs1 : (n : Int) ≤ s
  · have hR2 : R = .error 1 := by rw [HR.out, if_pos (.inr hs1)]
    subst hR2
    go_wp2_with fail
    refine bodyPost_ret (results_tmp2 rfl _ _ _) rfl ?_
    exact ⟨rfl, HB1.out⟩
  by_cases hs2 : s < -(lt : Int)
  · have hR2 : R = .error 1 := by rw [HR.out, if_pos (.inl hs2)]
    subst hR2
    have hs3 : s < IntKind.i64.wrap (-(lt : Int)) := by rw [HNG.out]; exact hs2
    go_wp2_with fail
    refine bodyPost_ret (results_tmp2 rfl _ _ _) rfl ?_
    exact ⟨rfl, HB1.out⟩
  have hR2 : R = playR g [s] l := by rw [HR.out, if_neg (by omega)]
  have hs3 : ¬ s < IntKind.i64.wrap (-(lt : Int)) := by rw [HNG.out]; exact hs2
  have HR2 := Lib.hid hR2
  have hq0 := (heap_alloc_old w1 (.cells #[.int .i64 s] 3) (Gn.heap_lt HX1.out)).trans HX1.out
  have hq1 : IntsAt (fun r => W.heap.size ≤ r) (w1.alloc (.cells #[.int .i64 s] 3)) [s] (.slice (some ⟨w1.heap.size, 0, none⟩) 1 1) := ⟨_, 1, w1.heap.size, rfl, Nat.le_refl _, fun _ => ⟨rfl, by simp, Nat.le_of_lt hz1⟩, fun i hi => by
    have : i = 0 := by simpa using hi
    subst this
    exact cell_of_row _ _ 0 _ _ (0, 0) (heap_alloc_new w1 _)⟩
  have HQ0 := Lib.hid hq0
  have HQ1 := Lib.hid hq1
  have HQ2 := Lib.hid (HB1.out.alloc HB1.out.size (.cells #[.int .i64 s] 3))
  clear hR2 HR hq0 hq1
  go_upto_region 4 with fail
  generalize hV3 : World.alloc w1 _ = V3
  rw [hV3] at HQ0 HQ1 HQ2
  clear hV3 b2 b3
  go_wp2_with fail
  go_loopw [8, 9] (fun vn x wr => ∃ (k : Nat) (now : List Int), k ≤ ln ∧ x = .int .i64 k ∧ IntsAt (fun r => W.heap.size ≤ r) wr now vn ∧ now.length ≤ 65536 ∧ R = playR g now (l.drop k) ∧ Below W.heap.size W wr ∧ wr.heap[W.heap.size]? = some (.cells #[.int .i64 st, .int .i64 ru, .slice An n cn, .slice At_ lt ct, .slice Ap np cp] 34 (0, 0))) (fun _ x _ => ln - (intOf x).toNat)
  case atStart => exact ⟨0, [s], Nat.zero_le _, rfl, HQ1.out, by simp, by rw [List.drop_zero]; exact HR2.out, HQ2.out, HQ0.out⟩
  case round =>
    obtain ⟨k, now, hk, rfl, hnow, hlen, hRk, hb, hx⟩ := hrel
    obtain ⟨wo, rfl⟩ : ∃ wo : World, wo = wr := ⟨_, rfl⟩
    have HNOW := Lib.hid hnow
    obtain ⟨A0, c0, q0, rfl, hcn, hq3, hq4⟩ := hnow
    obtain ⟨nl, hnl⟩ : ∃ nl, nl = now.length := ⟨_, rfl⟩
    rw [← hnl] at hlen hcn hq3 HNOW ⊢
    have HNL := Lib.hid hnl
    have HB := Lib.hid hb
    have HX := Lib.hid hx
    have HQ3 := Lib.hid hq3
    have HQ4 := Lib.hid hq4
    have HRK := Lib.hid hRk
    have c4 : wo.cell? ⟨W.heap.size, 4, none⟩ = some (.slice Ap np cp) := cell_of_row _ _ 4 _ _ (0, 0) hx
    clear hq3 hq4 hRk hnl
    by_cases hlt : k < ln
    rotate_left
    · have hke : ln = k := by omega
      subst hke
      have hlt2 : ¬ ((ln : Nat) : Int) < ((ln : Nat) : Int) := by omega
      have hR3 : R = .ok now := by rw [HRK.out, List.drop_eq_nil_of_le (by rw [← HLN.out]; exact Nat.le_refl _), playR]
      subst hR3
      clear hb hx
      go_wp2_with fail
      refine bodyPost_ret (results_tmp2 rfl _ _ _) rfl ?_
      exact ⟨⟨_, rfl, HNOW.out⟩, HB.out⟩
    have hkl : k < l.length := by rw [← HLN.out]; exact hlt
    obtain ⟨rfl, hub, _⟩ := HU3.out (by omega)
    have yx := (hb.cell (p := ⟨ub, k, none⟩) hub).trans (HU4.out k hkl)
    have hRs : R = match stepR g now l[k] with
      | .error c => .error c
      | .ok m => playR g m (l.drop (k + 1)) := by rw [HRK.out]; exact play_at g now l k hkl
    obtain ⟨x, hx0⟩ : ∃ x, x = l[k] := ⟨_, rfl⟩
    rw [← hx0] at yx hRs
    have HRS := Lib.hid hRs
    have hlt2 : (k : Int) < (ln : Int) := by omega
    clear hx0 hRs hb hx
    by_cases hx1 : x < 0
    · have hR3 : R = .error 10 := by
        have e : stepR g now x = .error 10 := by unfold stepR; rw [if_pos (.inl hx1)]
        rw [HRS.out, e]
      subst hR3
      go_wp2_with fail
      go_quiet (fail)
      go_wp2_with fail
      refine bodyPost_ret (results_tmp2 rfl _ _ _) rfl ?_
      exact ⟨rfl, Gn.below_drewN HB.out _⟩
    by_cases hx2 : (np : Int) ≤ x
    · have hR3 : R = .error 10 := by
        have e : stepR g now x = .error 10 := by unfold stepR; rw [if_pos (.inr (by rw [← HNP.out]; exact hx2))]
        rw [HRS.out, e]
      subst hR3
      go_wp2_with fail
      go_quiet (fail)
      go_wp2_with fail
      refine bodyPost_ret (results_tmp2 rfl _ _ _) rfl ?_
      exact ⟨rfl, Gn.below_drewN HB.out _⟩
    obtain ⟨y, rfl⟩ : ∃ y : Nat, x = (y : Int) := ⟨x.toNat, by omega⟩
    have hyn : y < np := by omega
    have h1 : y < g.prods.length := by rw [← HNP.out]; exact hyn
    obtain ⟨A', cap', bb, f, e1, _, e3, e4⟩ := HP.out
    injection e1 with e1 e6 e5
    subst e1
    subst e5
    obtain ⟨eA, hr, _⟩ := e3 (by omega)
    subst eA
    obtain ⟨x0, x1, xi⟩ := e4 y h1
    have hsh := HM.out.short _ (List.getElem_mem h1)
    obtain ⟨p, hp⟩ : ∃ p, p = g.prods[y] := ⟨_, rfl⟩
    rw [← hp] at x0 xi hsh
    have X0 := (HB.out.cell (p := ⟨bb, y * 2, none⟩) hr).trans x0
    have X1 := (HB.out.cell (p := ⟨bb, y * 2 + 1, none⟩) hr).trans x1
    have HXI := Lib.hid xi
    obtain ⟨Ax, cx, bx, hxs, _, hx3, hx4⟩ := xi
    rw [hxs] at X1 HXI
    obtain ⟨m, hm⟩ : ∃ m, m = p.right.length := ⟨_, rfl⟩
    obtain ⟨lf, hlf⟩ : ∃ lf, lf = p.left := ⟨_, rfl⟩
    rw [← hm] at X1 hsh HXI
    rw [← hlf] at X0
    have HM2 := Lib.hid hm
    have HE := Lib.hid (show stepR g now (y : Int) = match now[negs now]? with
        | none => .error 16
        | some x => if x ≠ lf then .error 7 else if 65537 < now.length + m then .error 6 else .ok (now.take (negs now) ++ p.right ++ now.drop (negs now + 1)) by
      unfold stepR
      rw [if_neg (by rw [← HNP.out]; omega), Int.toNat_natCast, List.getElem?_eq_getElem h1, ← hp, hlf, hm]
      rfl)
    clear e6 e3 e4 hxs hx3 hx4 x0 x1 hp hm hlf
    go_wp2_with fail
    go_quiet (fail)
    go_wp2_with fail
    have HWZ := Lib.hid (Gn.heap_lt HX.out)
    refine wp_region_noPanic ?_
    refine wp_region_held_drew (S := (fun w' => w'.cell? ⟨W.heap.size, 4, none⟩ = some (.slice (some ⟨bb, 0, none⟩) np cp) ∧ w'.cell? ⟨ub, k, none⟩ = some (.int .i64 (y : Int)) ∧ w'.cell? ⟨bb, y * 2, none⟩ = some (.int .i64 lf) ∧ w'.cell? ⟨bb, y * 2 + 1, none⟩ = some (.slice Ax m cx))) (by kernel_rfl) ?_ (fun hHeld => ?_)
    · exact ⟨cell_dN c4 nq, cell_dN yx nq, cell_dN X0 nq, cell_dN X1 nq⟩
    refine wpAnyH_take (i := 0) (v := ?_) rfl (by kernel_rfl) (by kernel_rfl) (by kernel_rfl) (fun _ _ _ h => h) (Or.inl ⟨by rfl, ?_⟩) (by assumption) ?_
    rotate_left
    · intro w hSw
      try dsimp only at hSw
      go_simp
      try with_reducible rfl
    try simp only [Act.put, List.setIfInBounds_toArray, List.set_cons_zero, List.set_cons_succ]
    refine wpAnyH_take (i := 1) (v := ?_) rfl (by kernel_rfl) (by kernel_rfl) (by kernel_rfl) (fun _ _ _ h => h) (Or.inl ⟨by rfl, ?_⟩) (by assumption) ?_
    rotate_left
    · intro w hSw
      try dsimp only at hSw
      go_simp
      try with_reducible rfl
    try simp only [Act.put, List.setIfInBounds_toArray, List.set_cons_zero, List.set_cons_succ]
    refine wpAnyH_take (i := 2) (v := ?_) rfl (by kernel_rfl) (by kernel_rfl) (by kernel_rfl) (fun _ _ _ h => h) (Or.inl ⟨by rfl, ?_⟩) (by assumption) ?_
    rotate_left
    · intro w hSw
      try dsimp only at hSw
      go_simp
      try with_reducible rfl
    try simp only [Act.put, List.setIfInBounds_toArray, List.set_cons_zero, List.set_cons_succ]
    refine wpAnyH_take (i := 3) (v := ?_) rfl (by kernel_rfl) (by kernel_rfl) (by kernel_rfl) (fun _ _ _ h => h) (Or.inl ⟨by rfl, ?_⟩) (by assumption) ?_
    rotate_left
    · intro w hSw
      try dsimp only at hSw
      go_simp
      try with_reducible rfl
    try simp only [Act.put, List.setIfInBounds_toArray, List.set_cons_zero, List.set_cons_succ]
    refine wpAnyH_take (i := 4) (v := ?_) rfl (by kernel_rfl) (by kernel_rfl) (by kernel_rfl) (fun _ _ _ h => h) (Or.inl ⟨by rfl, ?_⟩) (by assumption) ?_
    rotate_left
    · intro w hSw
      try dsimp only at hSw
      go_simp
      try with_reducible rfl
    try simp only [Act.put, List.setIfInBounds_toArray, List.set_cons_zero, List.set_cons_succ]
    refine wpAnyH_take (i := 5) (v := ?_) rfl (by kernel_rfl) (by kernel_rfl) (by kernel_rfl) (fun _ _ _ h => h) (Or.inl ⟨by rfl, ?_⟩) (by assumption) ?_
    rotate_left
    · intro w hSw
      try dsimp only at hSw
      go_simp
      try with_reducible rfl
    try simp only [Act.put, List.setIfInBounds_toArray, List.set_cons_zero, List.set_cons_succ]
    refine wpAnyH_take (i := 6) (v := ?_) rfl (by kernel_rfl) (by kernel_rfl) (by kernel_rfl) (fun _ _ _ h => h) (Or.inl ⟨by rfl, ?_⟩) (by assumption) ?_
    rotate_left
    · intro w hSw
      try dsimp only at hSw
      go_simp
      try with_reducible rfl
    try simp only [Act.put, List.setIfInBounds_toArray, List.set_cons_zero, List.set_cons_succ]
    refine wpAnyH_take (i := 7) (v := ?_) rfl (by kernel_rfl) (by kernel_rfl) (by kernel_rfl) (fun _ _ _ h => h) (Or.inl ⟨by rfl, ?_⟩) (by assumption) ?_
    rotate_left
    · intro w hSw
      try dsimp only at hSw
      go_simp
      try with_reducible rfl
    try simp only [Act.put, List.setIfInBounds_toArray, List.set_cons_zero, List.set_cons_succ]
    refine wpAnyH_ready (rs := [8]) (by kernel_rfl) (by simp) ?_
    refine AllReadyH.cons rfl (fun K hK => ?_) AllReadyH.nil
    go_simp
    refine hK.out _ _ (⟨cell_da c4 _ _, cell_da yx _ _, cell_da X0 _ _, cell_da X1 _ _⟩) (fun hHeld => ?_)
    clear hK K
    try simp only [Act.put, List.setIfInBounds_toArray, List.set_cons_zero, List.set_cons_succ]
    refine wpAnyH_ready (rs := [9]) (by kernel_rfl) (by simp) ?_
    refine AllReadyH.cons rfl (fun K hK => ?_) AllReadyH.nil
    refine step_store_two _ (by rfl) 78 (.tmp 10) (.tmp 61) (by rfl) wo.heap.size (.int .i64 lf) (.slice Ax m cx) _ _ _ (by simp [Act.eval]) (by simp [Act.eval]) (Fx.heap_new _ _ _ (by first | rfl | simp)) (by kernel_rfl) (by simp [Value.oneCell']) ?_
    intro w2 hb2 hk2 hl2 hz2
    have HB2 := Lib.hid hb2
    have HK2 := Lib.hid hk2
    have HL2 := Lib.hid (show Below wo.heap.size wo w2 from by refine Below.trans ?_ (hl2 wo.heap.size (Nat.le_refl _)); exact (Gn.below_drewN (Below.refl wo.heap.size wo) _).alloc (Gn.below_drewN (Below.refl wo.heap.size wo) _).size _)
    have HZ2 := Lib.hid hb2
    clear hb2 hk2 hl2 hz2
    refine hK.out _ _ (⟨(World.cell?_of_block (HK2.out W.heap.size (by have := HWZ.out; omega))).trans (cell_da c4 _ _), (World.cell?_of_block (HK2.out ub (by have := HWZ.out; omega))).trans (cell_da yx _ _), (World.cell?_of_block (HK2.out bb (by have := HWZ.out; omega))).trans (cell_da X0 _ _), (World.cell?_of_block (HK2.out bb (by have := HWZ.out; omega))).trans (cell_da X1 _ _)⟩) (fun hHeld => ?_)
    clear hK K
    try simp only [Act.put, List.setIfInBounds_toArray, List.set_cons_zero, List.set_cons_succ]
    refine wpAnyH_done (by kernel_rfl) ?_ _
    refine NoPanic.normal ?_
    have d0 : w2.cell? ⟨wo.heap.size, 0, none⟩ = some (.int .i64 lf) := cell_of_row _ _ 0 _ _ (0, 0) HB2.out
    have d1 : w2.cell? ⟨wo.heap.size, 1, none⟩ = some (.slice Ax m cx) := cell_of_row _ _ 1 _ _ (0, 0) HB2.out
    have HLB := Lib.hid (HB.out.trans (HL2.out.mono HB.out.size))
    have HX2 := Lib.hid ((HL2.out.block _ HWZ.out).trans HX.out)
    have HN2 := Lib.hid (HNOW.out.under HL2.out)
    have hw2z : wo.heap.size < w2.heap.size := Gn.heap_lt HZ2.out
    have HW2Z := Lib.hid hw2z
    obtain ⟨at_, hat⟩ : ∃ a, a = negs now := ⟨_, rfl⟩
    have hle : at_ ≤ nl := by rw [hat, HNL.out]; exact negs_le now
    have HAT := Lib.hid hat
    clear c4 yx X0 X1 hat hw2z
    go_wp2_with fail
    go_loopw [11] (fun x w5 => ∃ j : Nat, j ≤ at_ ∧ x = .int .i64 j ∧ w5 = w2) (fun x _ => at_ - (intOf x).toNat)
    case atStart => exact ⟨0, Nat.zero_le _, rfl, rfl⟩
    case round =>
      obtain ⟨j, hj, rfl, rfl⟩ := hrel
      by_cases hjn : j < nl
      rotate_left
      · have e1 : at_ = nl := by omega
        have e2 : j = nl := by omega
        subst e2
        have hR3 : R = .error 16 := by
          rw [HRS.out, HE.out, ← HAT.out, e1, HNL.out, List.getElem?_eq_none (Nat.le_refl _)]
        subst hR3
        have hjj : ¬ ((j : Nat) : Int) < ((j : Nat) : Int) := by omega
        go_wp2_with fail
        refine bodyPost_ret (results_tmp2 rfl _ _ _) rfl ?_
        exact ⟨rfl, HLB.out⟩
      have hjn2 : (j : Int) < (nl : Int) := by omega
      have hjl : j < now.length := by rw [← HNL.out]; exact hjn
      obtain ⟨eA0, hq0z, _⟩ := HQ3.out (by omega)
      subst eA0
      have yj := (HL2.out.cell (p := ⟨q0, j, none⟩) hq0z).trans (HQ4.out j hjl)
      by_cases hja : j < at_
      · have hneg : now[j] < 0 := negs_at now j hjl (by rw [← HAT.out]; exact hja)
        obtain ⟨xj, hxj⟩ : ∃ xj, xj = now[j] := ⟨_, rfl⟩
        rw [← hxj] at yj hneg
        clear hxj
        go_wp2_with fail
        go_roundw
        case rel => exact ⟨j + 1, by omega, by simp, by trivial⟩
        case measure => simp [intOf]; omega
      have e1 : at_ = j := by omega
      subst e1
      have hpos : ¬ now[at_] < 0 := by
        have := negs_end now (by rw [← HAT.out]; exact hjl)
        simpa only [← HAT.out] using this
      have HE2 := Lib.hid (show stepR g now (y : Int) = if now[at_] ≠ lf then .error 7 else if 65537 < nl + m then .error 6 else .ok (now.take at_ ++ p.right ++ now.drop (at_ + 1)) by
        rw [HE.out, ← HAT.out, List.getElem?_eq_getElem hjl, ← HNL.out])
      obtain ⟨xj, hxj⟩ : ∃ xj, xj = now[at_] := ⟨_, rfl⟩
      rw [← hxj] at yj hpos HE2
      have hne : ¬ ((at_ : Nat) : Int) = ((nl : Nat) : Int) := by omega
      clear hxj
      by_cases hxl : xj = lf
      rotate_left
      · have hR3 : R = .error 7 := by rw [HRS.out, HE2.out, if_pos hxl]
        subst hR3
        go_wp2_with fail
        go_quiet (fail)
        go_wp2_with fail
        refine bodyPost_ret (results_tmp2 rfl _ _ _) rfl ?_
        exact ⟨rfl, Gn.below_drewN HLB.out _⟩
      by_cases hbig : 65537 < nl + m
      · have hR3 : R = .error 6 := by rw [HRS.out, HE2.out, if_neg (by simpa using hxl), if_pos hbig]
        subst hR3
        have hbig2 : (65537 : Int) < (nl : Int) + (m : Int) := by omega
        go_wp2_with fail
        go_quiet (fail)
        go_wp2_with fail
        refine bodyPost_ret (results_tmp2 rfl _ _ _) rfl ?_
        exact ⟨rfl, Gn.below_drewN HLB.out _⟩
      have hbig2 : ¬ (65537 : Int) < (nl : Int) + (m : Int) := by omega
      have HR3 := Lib.hid (show R = playR g (now.take at_ ++ p.right ++ now.drop (at_ + 1)) (l.drop (k + 1)) by rw [HRS.out, HE2.out, if_neg (by simpa using hxl), if_neg hbig])
      go_wp2_with fail
      go_quiet (fail)
      go_upto_region 20 with fail
      have HO0 := Lib.hid (World.ownsRow_nil (wr.drewN nq) wr.heap.size 3 1)
      have HT1 := Lib.hid (ints_head (HN2.out.under (Gn.below_drewN (Below.refl wr.heap.size wr) nq)) at_ (by rw [← HNL.out]; omega))
      have HTL := Lib.hid (show (now.take at_).length = at_ by rw [List.length_take, ← HNL.out]; omega)
      have hm6 : m ≤ 6 := hsh
      go_upto_region 21 with (at_builtin; refine wpList_append_ints _ rfl _ _ rfl wr.heap.size (.slice none 0 0) 0 [] rfl HO0.out _ (now.take at_) _ rfl HT1.out (by rw [HTL.out]; omega) (by simp) ?_; intro v2 w3 ho3 hg3 hat3; have HO3 := Lib.hid ho3; have HB3 := Lib.hid (Below.grown (Gn.below_drewN (Below.refl wr.heap.size wr) nq) hg3 (by simp) (fun j hj => by cases hj)); clear ho3 hg3 hat3)
      have d1' : w3.cell? ⟨wo.heap.size, 1, none⟩ = some (.slice Ax m cx) := (HB3.out.cell (p := ⟨wo.heap.size, 1, none⟩) HW2Z.out).trans d1
      have HI3 := Lib.hid (HXI.out.under (HLB.out.trans (HB3.out.mono HLB.out.size)))
      go_upto_region 22 with (at_builtin; refine wpList_append_ints _ rfl _ _ rfl wr.heap.size v2 _ _ rfl HO3.out _ p.right _ rfl HI3.out (by rw [HTL.out, ← HM2.out]; omega) HB3.out.size ?_; intro v3 w4 ho4 hg4 hat4; have HO4 := Lib.hid ho4; have HB4 := Lib.hid (Below.grown HB3.out hg4 HB3.out.size (fun j hj => (Fx.own_base HO3.out hj).1)); clear ho4 hg4 hat4)
      clear d1'
      have HC4 := Lib.hid (fun (j : Nat) (h : at_ + 1 + j < now.length) => (HB4.out.cell (p := ⟨q0, at_ + 1 + j, none⟩) (Nat.lt_trans hq0z HW2Z.out)).trans ((HL2.out.cell (p := ⟨q0, at_ + 1 + j, none⟩) hq0z).trans (HQ4.out (at_ + 1 + j) h)))
      have HDL := Lib.hid (show (now.drop (at_ + 1)).length = nl - (at_ + 1) by rw [List.length_drop, ← HNL.out])
      have hat1 : at_ + 1 ≤ nl := by omega
      by_cases hcc : at_ + 1 = c0
      · go_wp2_with (at_builtin; refine wpList_append_tail _ rfl _ _ rfl wr.heap.size v3 _ _ rfl HO4.out q0 _ _ _ (now.drop (at_ + 1)) rfl (by rw [HDL.out]; try omega) (fun j hj => absurd hj (by rw [HDL.out]; omega)) (by rw [HTL.out, ← HM2.out, HDL.out]; omega) HB4.out.size ?_; intro v4 w5 ho5 hg5; have HO5 := Lib.hid ho5; have HB5 := Lib.hid (Below.grown HB4.out hg5 HB4.out.size (fun j hj => (Fx.own_base HO4.out hj).1)); clear ho5 hg5)
        go_roundw
        case rel =>
          have hz5 := Nat.le_trans (Nat.le_of_lt HWZ.out) (Nat.le_of_lt HW2Z.out)
          have hbw := HLB.out.trans (HB5.out.mono (Nat.le_trans HLB.out.size (Nat.le_refl _)))
          refine ⟨k + 1, now.take at_ ++ p.right ++ now.drop (at_ + 1), by omega, by simp, ?_, ?_, HR3.out, hbw, (HB5.out.block _ (Nat.lt_trans HWZ.out HW2Z.out)).trans HX2.out⟩
          · have h5 := HO5.out
            refine (IntsAt.of_own (e := 3) (base := wr.heap.size) (l := now.take at_ ++ p.right ++ now.drop (at_ + 1)) ?_).keep (Nat.le_refl _) fun r hr _ => ⟨Nat.le_trans hz5 hr, fun _ => rfl⟩
            rw [show (now.take at_ ++ p.right ++ now.drop (at_ + 1)).length = 0 + (now.take at_).length + p.right.length + (now.drop (at_ + 1)).length by rw [List.length_append, List.length_append]; omega, List.map_append, List.map_append]
            simpa only [List.nil_append] using h5
          · rw [List.length_append, List.length_append, HTL.out, HDL.out, ← HM2.out]; omega
        case measure => simp [intOf]; omega
      · go_wp2_with (at_builtin; refine wpList_append_tail _ rfl _ _ rfl wr.heap.size v3 _ _ rfl HO4.out q0 _ _ _ (now.drop (at_ + 1)) rfl (by rw [HDL.out]; try omega) (fun j hj => by have h1 := HC4.out j (by rw [List.length_drop] at hj; omega); rw [List.getElem_drop]; first | exact h1 | simpa using h1) (by rw [HTL.out, ← HM2.out, HDL.out]; omega) HB4.out.size ?_; intro v4 w5 ho5 hg5; have HO5 := Lib.hid ho5; have HB5 := Lib.hid (Below.grown HB4.out hg5 HB4.out.size (fun j hj => (Fx.own_base HO4.out hj).1)); clear ho5 hg5)
        go_roundw
        case rel =>
          have hz5 := Nat.le_trans (Nat.le_of_lt HWZ.out) (Nat.le_of_lt HW2Z.out)
          have hbw := HLB.out.trans (HB5.out.mono (Nat.le_trans HLB.out.size (Nat.le_refl _)))
          refine ⟨k + 1, now.take at_ ++ p.right ++ now.drop (at_ + 1), by omega, by simp, ?_, ?_, HR3.out, hbw, (HB5.out.block _ (Nat.lt_trans HWZ.out HW2Z.out)).trans HX2.out⟩
          · have h5 := HO5.out
            refine (IntsAt.of_own (e := 3) (base := wr.heap.size) (l := now.take at_ ++ p.right ++ now.drop (at_ + 1)) ?_).keep (Nat.le_refl _) fun r hr _ => ⟨Nat.le_trans hz5 hr, fun _ => rfl⟩
            rw [show (now.take at_ ++ p.right ++ now.drop (at_ + 1)).length = 0 + (now.take at_).length + p.right.length + (now.drop (at_ + 1)).length by rw [List.length_append, List.length_append]; omega, List.map_append, List.map_append]
            simpa only [List.nil_append] using h5
          · rw [List.length_append, List.length_append, HTL.out, HDL.out, ← HM2.out]; omega
        case measure => simp [intOf]; omega
end Go.Proofs.Ytjlppffkacimoaa.Tr
