/-
  The walk of stepsOf at one of the closures.
-/
import Derived.Test.YtlkijnglpllcdaaFxRows
import Derived.Deep.RegionHeld3
namespace Go.Proofs.Ytlkijnglpllcdaa.Fx
open Go.RowKit
set_option maxRecDepth 100000
set_option linter.unusedSimpArgs false

theorem step_append_ints {ops : Array Oper} {o : Oper} {a : Act} {K : Act → World → Prop} {Q : Exit → Act → World → Prop} {E : Prop} (w : World) (hgd : o.guard = none) (s x : Operand)
    (ho : o.op = .call { callee := .builtin .append, args := #[s, x], argTypes := #[22, 22] })
    (base : Nat) (v : Value) (n : Nat) (xs : List Value) (hs : a.eval s = v) (hown : w.ownsRow base 3 1 v n xs) (P : Nat → Prop) (l : List Int) (u : Value) (hx : a.eval x = u) (hi : IntsAt P w l u) (hm : n + l.length ≤ 8796093022208) (hb : base ≤ w.heap.size)
    (h : ∀ v' w', w'.ownsRow base 3 1 v' (n + l.length) (xs ++ l.map (Value.int .i64)) → w.grownBy w' v.ownBlock → (v'.ownBlock = v.ownBlock ∨ v'.ownBlock = some w.heap.size) → K (a.put o.dst v') w') :
    if Region.wanted o (yielded ops a.tmps) = true then Oper.wp Try.prog o a w K Q else E := by
  have hw : Region.wanted o (yielded ops a.tmps) = true := by simp [Region.wanted, hgd]
  rw [if_pos hw]
  obtain ⟨v', w', hr, h2, h3, h4⟩ := run_append_ints o.type w base v n xs hown P l u hi hm hb
  unfold Oper.wp execOp
  simp only [ho, resolve, invoke, builtin, Sem.run_bind, Sem.run_pure, Result.andThen_ok, List.map_toArray, List.map_cons, List.map_nil, hs, hx, hr]
  exact h v' w' h2 h3 h4

set_option maxHeartbeats 4000000 in
theorem steps_all (φ : List Int → List Int) (ps : List Prd) (n : Nat) (hn : n ≤ 1048576) (hps : ps.length ≤ 1048576) (hl : ∀ p ∈ ps, 0 ≤ p.left ∧ p.left < (n : Int) ∧ p.right.length ≤ 1048576) (hφ : ∀ r, (φ r).length ≤ r.length) (P : Nat → Prop) (W : World) (st ru : Int) (An At_ Ap : Option Addr) (cn lt ct cp : Nat) (h : PrdsAt P W ps (.slice Ap ps.length cp))
    (hc : ∀ p ∈ ps, ∀ w u, Below W.heap.size W w → IntsAt P w p.right u → Calls Try.prog 33 #[u] w (TellsInts w (φ p.right))) :
    Calls Try.prog 28 #[.agg #[.int .i64 st, .int .i64 ru, .slice An n cn, .slice At_ lt ct, .slice Ap ps.length cp], .func (.func 33) #[] #[]] W fun e w' => ∃ f, e = .returned (.slice (some ⟨W.heap.size + 1, 0, none⟩) n n) ∧ RowsAt W.heap.size (W.heap.size + 1) n (goS φ ps) f w' ∧ Below W.heap.size W w' := by
  obtain ⟨np, hnp⟩ : ∃ np, np = ps.length := ⟨_, rfl⟩
  rw [← hnp] at h hps ⊢
  have HP := Lib.hid h
  have HL := Lib.hid hl
  have HC := Lib.hid hc
  have HNP := Lib.hid hnp
  have HF := Lib.hid hφ
  have hbb : Below W.heap.size W (W.alloc (.cells #[.int .i64 st, .int .i64 ru, .slice An n cn, .slice At_ lt ct, .slice Ap np cp] 30)) := (Below.refl _ _).alloc (Nat.le_refl _) _
  have hmk := run_make_row' (P := Try.prog) 23 22 (.slice none 0 0) 24 rfl rinfo rfl .i64 .i64 n (by omega) (by omega)
  have HG := Lib.hid (fun w : World => World.rowIs_made w (.slice none 0 0) n 22)
  clear h hl hc hnp hφ
  go_enter Try.func28, Try.ntmps28
  go_wp2
  have HBB := Lib.hid hbb
  clear hbb hmk
  go_loopw [15] (fun i wr => ∃ (k : Nat) (f : Nat → Value), k ≤ np ∧ i = .int .i64 k ∧ RowsAt W.heap.size (W.heap.size + 1) n (goS φ (ps.take k)) f wr ∧ Below W.heap.size W wr) (fun i _ => np - (intOf i).toNat)
  case atStart =>
    refine ⟨0, fun _ => .slice none 0 0, Nat.zero_le _, rfl, ⟨by have := HG.out (W.alloc (.cells #[.int .i64 st, .int .i64 ru, .slice An n cn, .slice At_ lt ct, .slice Ap np cp] 30)); simpa using this, by omega, fun i _ => World.ownsRow_nil _ _ _ _, fun i j g _ _ _ h => by cases h⟩, HBB.out.alloc HBB.out.size _⟩
  case round =>
    obtain ⟨k, f, hk, rfl, hrows, hbel⟩ := hrel
    by_cases hlt : k < np
    · have h1 : k < ps.length := by rw [← HNP.out]; exact hlt
      obtain ⟨A', cap', bb, fv, e1, _, e3, e4⟩ := HP.out
      injection e1 with e1 e0 e5
      clear e0
      subst e1
      subst e5
      obtain ⟨eA, hr, _⟩ := e3 (by omega)
      subst eA
      obtain ⟨x0, x1, xi⟩ := e4 k h1
      have hmem : ps[k] ∈ ps := List.getElem_mem h1
      obtain ⟨lf0, lf1, lf2⟩ := HL.out _ hmem
      have X0 := (hbel.cell (p := ⟨bb, k * 2, none⟩) hr).trans x0
      have X1 := (hbel.cell (p := ⟨bb, k * 2 + 1, none⟩) hr).trans x1
      obtain ⟨q, hq⟩ : ∃ q : Nat, ps[k].left = (q : Int) := ⟨ps[k].left.toNat, by omega⟩
      have hqn : q < n := by omega
      rw [hq] at X0
      obtain ⟨Ax, cx, ex⟩ := xi.form
      have hxi := xi
      rw [ex] at X1 hxi
      have hln : (goS φ (ps.take k) q).length + (φ ps[k].right).length ≤ 8796093022208 := by
        have h2 := goS_len φ 1048576 HF.out (ps.take k) (fun p hp => (HL.out p (List.mem_of_mem_take hp)).2.2) q
        have h3 := HF.out ps[k].right
        rw [List.length_take] at h2
        have h4 : min k ps.length * 1048576 ≤ 1048576 * 1048576 := Nat.mul_le_mul_right _ (by omega)
        omega
      have HLN := Lib.hid hln
      have hs2 : ∀ (f' : Nat → Value) (w' : World), RowsAt W.heap.size (W.heap.size + 1) n (fun j => if j = q then goS φ (ps.take k) q ++ φ ps[k].right else goS φ (ps.take k) j) f' w' → RowsAt W.heap.size (W.heap.size + 1) n (goS φ (ps.take (k + 1))) f' w' := fun f' w' h => by
        have e : (fun j => if j = q then goS φ (ps.take k) q ++ φ ps[k].right else goS φ (ps.take k) j) = goS φ (ps.take (k + 1)) := by
          funext j
          rw [List.take_succ_eq_append_getElem h1, goS_snoc φ _ _ q hq]
        rwa [e] at h
      have HS2 := Lib.hid hs2
      have HKC := Lib.hid (HC.out _ hmem)
      have HXI := Lib.hid hxi
      obtain ⟨m, hm⟩ : ∃ m, m = ps[k].right.length := ⟨_, rfl⟩
      rw [← hm] at X1 HXI
      have hx := heap_alloc_new wr (.cells #[.int .i64 q, .slice Ax m cx] 47)
      have hb2 := hbel.alloc hbel.size (.cells #[.int .i64 q, .slice Ax m cx] 47)
      have hr2 := hrows.below ((Below.refl wr.heap.size wr).alloc (Nat.le_refl _) (.cells #[.int .i64 q, .slice Ax m cx] 47))
      have hvl : wr.heap.size < (wr.alloc (.cells #[.int .i64 q, .slice Ax m cx] 47)).heap.size := by simp
      obtain ⟨vq, hvq⟩ : ∃ vq, vq = f q := ⟨_, rfl⟩
      have HVQ := Lib.hid hvq
      have HOB := Lib.hid (fun g (hg : vq.ownBlock = some g) => (by rw [hvq] at hg; exact own_base (hrows.own q hqn) hg : W.heap.size + 1 + 1 ≤ g ∧ g < wr.heap.size))
      have HGL := Lib.hid (show W.heap.size + 1 < wr.heap.size from hrows.block.lt)
      have hqi : (0 : Int) ≤ (q : Int) := by omega
      have hqi2 : (q : Int) < (n : Int) := by omega
      clear e3 e4 xi ex x0 x1 hq hmem lf0 lf1 lf2 hln hs2 hxi hm hvq hrows hbel
      go_wp2_with fail
      generalize hV : World.alloc wr _ = V
      rw [hV] at hx hb2 hr2 hvl
      clear hV
      have HVB := Lib.hid (show Below W.heap.size W V.drew from hb2.drew)
      have HXV := Lib.hid (show IntsAt P V.drew _ _ from (HXI.out.under HVB.out))
      have HR2 := Lib.hid hr2.drew
      have y0 : V.cell? ⟨wr.heap.size, 0, none⟩ = some (.int .i64 q) := cell_of_row _ _ 0 _ _ (0, 0) hx
      have y1 : V.cell? ⟨wr.heap.size, 1, none⟩ = some (.slice Ax m cx) := cell_of_row _ _ 1 _ _ (0, 0) hx
      have y7 : V.cell? ⟨W.heap.size + 1, q, none⟩ = some vq := by rw [HVQ.out]; exact hr2.block.cell hqn
      have HVL := Lib.hid hvl
      have HKW := Lib.hid (fun (w' : World) (e : w'.heap[wr.heap.size]? = V.heap[wr.heap.size]?) => (⟨cell_of_row _ _ 0 _ _ (0, 0) (e.trans hx), cell_of_row _ _ 1 _ _ (0, 0) (e.trans hx)⟩ : w'.cell? ⟨wr.heap.size, 0, none⟩ = some (.int .i64 q) ∧ w'.cell? ⟨wr.heap.size, 1, none⟩ = some (.slice Ax m cx)))
      clear hx hb2 hr2 hvl
      refine wp_region_noPanic ?_
      refine wp_region_held_drew (S := (fun W' => W'.cell? ⟨wr.heap.size, 0, none⟩ = some (.int .i64 q) ∧ W'.cell? ⟨wr.heap.size, 1, none⟩ = some (.slice Ax m cx))) (by kernel_rfl) ?_ (fun hHeld => ?_)
      · exact ⟨y0, y1⟩
      refine wpAnyH_take (i := 0) (v := ?_) rfl (by kernel_rfl) (by kernel_rfl) (by kernel_rfl) (fun _ _ _ h => h) (Or.inl ⟨by rfl, ?_⟩) (by assumption) ?_
      rotate_left
      · intro w hSw
        try dsimp only at hSw
        go_simp
        try with_reducible rfl
      try simp only [Act.put, List.setIfInBounds_toArray, List.set_cons_zero, List.set_cons_succ]
      refine wpAnyH_take (i := 1) (v := ?_) rfl (by kernel_rfl) (by kernel_rfl) (by kernel_rfl) (fun _ _ _ h => h) (Or.inl ⟨by rfl, ?_⟩) (by assumption) ?_
      rotate_left
      · intro w hSw
        try dsimp only at hSw
        go_simp
        try with_reducible rfl
      try simp only [Act.put, List.setIfInBounds_toArray, List.set_cons_zero, List.set_cons_succ]
      refine wpAnyH_take (i := 2) (v := ?_) rfl (by kernel_rfl) (by kernel_rfl) (by kernel_rfl) (fun _ _ _ h => h) (Or.inl ⟨by rfl, ?_⟩) (by assumption) ?_
      rotate_left
      · intro w hSw
        try dsimp only at hSw
        go_simp
        try with_reducible rfl
      try simp only [Act.put, List.setIfInBounds_toArray, List.set_cons_zero, List.set_cons_succ]
      refine wpAnyH_take (i := 3) (v := ?_) rfl (by kernel_rfl) (by kernel_rfl) (by kernel_rfl) (fun _ _ _ h => h) (Or.inl ⟨by rfl, ?_⟩) (by assumption) ?_
      rotate_left
      · intro w hSw
        try dsimp only at hSw
        go_simp
        try with_reducible rfl
      try simp only [Act.put, List.setIfInBounds_toArray, List.set_cons_zero, List.set_cons_succ]
      refine wpAnyH_take (i := 4) (v := ?_) rfl (by kernel_rfl) (by kernel_rfl) (by kernel_rfl) (fun _ _ _ h => h) (Or.inl ⟨by rfl, ?_⟩) (by assumption) ?_
      rotate_left
      · intro w hSw
        try dsimp only at hSw
        go_simp
        try with_reducible rfl
      try simp only [Act.put, List.setIfInBounds_toArray, List.set_cons_zero, List.set_cons_succ]
      refine wpAnyH_take (i := 5) (v := ?_) rfl (by kernel_rfl) (by kernel_rfl) (by kernel_rfl) (fun _ _ _ h => h) (Or.inl ⟨by rfl, ?_⟩) (by assumption) ?_
      rotate_left
      · intro w hSw
        try dsimp only at hSw
        go_simp
        try with_reducible rfl
      try simp only [Act.put, List.setIfInBounds_toArray, List.set_cons_zero, List.set_cons_succ]
      refine wpAnyH_take (i := 6) (v := ?_) rfl (by kernel_rfl) (by kernel_rfl) (by kernel_rfl) (fun _ _ _ h => h) (Or.inl ⟨by rfl, ?_⟩) (by assumption) ?_
      rotate_left
      · intro w hSw
        try dsimp only at hSw
        go_simp
        try with_reducible rfl
      try simp only [Act.put, List.setIfInBounds_toArray, List.set_cons_zero, List.set_cons_succ]
      refine wpAnyH_take (i := 8) (v := ?_) rfl (by kernel_rfl) (by kernel_rfl) (by kernel_rfl) (fun _ _ _ h => h) (Or.inl ⟨by rfl, ?_⟩) (by assumption) ?_
      rotate_left
      · intro w hSw
        try dsimp only at hSw
        go_simp
        try with_reducible rfl
      try simp only [Act.put, List.setIfInBounds_toArray, List.set_cons_zero, List.set_cons_succ]
      refine wpAnyH_take (i := 9) (v := ?_) rfl (by kernel_rfl) (by kernel_rfl) (by kernel_rfl) (fun _ _ _ h => h) (Or.inl ⟨by rfl, ?_⟩) (by assumption) ?_
      rotate_left
      · intro w hSw
        try dsimp only at hSw
        go_simp
        try with_reducible rfl
      try simp only [Act.put, List.setIfInBounds_toArray, List.set_cons_zero, List.set_cons_succ]
      refine wpAnyH_take (i := 10) (v := ?_) rfl (by kernel_rfl) (by kernel_rfl) (by kernel_rfl) (fun _ _ _ h => h) (Or.inl ⟨by rfl, ?_⟩) (by assumption) ?_
      rotate_left
      · intro w hSw
        try dsimp only at hSw
        go_simp
        try with_reducible rfl
      try simp only [Act.put, List.setIfInBounds_toArray, List.set_cons_zero, List.set_cons_succ]
      refine wpAnyH_ready (rs := [7, 11]) (by kernel_rfl) (by simp) ?_
      refine AllReadyH.cons rfl (fun K hK => ?_) ?_
      · go_simp
        refine hK.out _ _ (by assumption) (fun hHeld => ?_)
        clear hK K
        try simp only [Act.put, List.setIfInBounds_toArray, List.set_cons_zero, List.set_cons_succ]
        refine wpAnyH_ready (rs := [11]) (by kernel_rfl) (by simp) ?_
        refine AllReadyH.cons rfl (fun K hK => ?_) AllReadyH.nil
        go_simp
        go_at_call 33
        refine (HKC.out _ _ HVB.out HXV.out).mono ?_
        rintro e w3 ⟨u3, rfl, hi3, hb3⟩
        have hR3 := HR2.out.below hb3
        have y3 := hR3.block.cell hqn
        rw [← HVQ.out] at y3
        have HI3 := Lib.hid hi3
        have HB3 := Lib.hid hb3
        have HR3 := Lib.hid hR3
        clear hi3 hb3 hR3
        refine hK.out _ _ (HKW.out _ (HB3.out.block _ HVL.out)) (fun hHeld => ?_)
        clear hK K
        try simp only [Act.put, List.setIfInBounds_toArray, List.set_cons_zero, List.set_cons_succ]
        refine wpAnyH_ready (rs := [12]) (by kernel_rfl) (by simp) ?_
        refine AllReadyH.cons rfl (fun K hK => ?_) AllReadyH.nil
        refine step_append_ints _ (by rfl) (.tmp 26) (.tmp 30) (by rfl) (W.heap.size + 1 + 1) vq (goS φ (ps.take k) q).length ((goS φ (ps.take k) q).map (Value.int .i64)) (by simp [Act.eval]) (by have := HR3.out.own q hqn; rwa [← HVQ.out] at this) (fun _ => True) (φ (ps[k]'(by have := HNP.out; omega)).right) u3 (by simp [Act.eval]) HI3.out HLN.out (by have := HR3.out.block.lt; omega) ?_
        intro v4 w4 hown4 hgrow4 hat4
        obtain ⟨A4, c4, e4⟩ := Gn.slice_of hown4
        generalize (goS φ (ps.take k) q).length + (φ (ps[k]'(by have := HNP.out; omega)).right).length = len4 at e4
        have h4 := HR3.out.grow q hqn (φ (ps[k]'(by have := HNP.out; omega)).right) v4 (by rw [← HVQ.out]; exact hgrow4) hown4 (by rw [← HVQ.out]; exact hat4)
        have hg4 := hgrow4.block (W.heap.size + 1) HR3.out.block.lt (fun e => by have := HOB.out _ e.symm; omega)
        have y4 := (Gn.cell_same hg4 q).trans y3
        have yf : w4.frozen? ⟨W.heap.size + 1, q, none⟩ = false := (HR3.out.block.of_block hg4).frozen q
        have HK4 := Lib.hid (hgrow4.block wr.heap.size (Nat.lt_of_lt_of_le HVL.out HB3.out.size) (fun e => by have := HOB.out _ e.symm; omega))
        have HB4 := Lib.hid (show Below W.heap.size W (w4.setCell ⟨W.heap.size + 1, q, none⟩ v4) from (HVB.out.trans (HB3.out.mono HVB.out.size) |>.grown hgrow4 (by have := HB3.out.size; have := HVB.out.size; omega) (fun j hj => by have := (HOB.out j hj).1; omega)).setCell (Nat.le_add_right _ _) _)
        have H4 := Lib.hid h4
        clear hown4 hgrow4 hat4 hg4 h4
        subst e4
        refine hK.out _ _ (HKW.out _ (HK4.out.trans (HB3.out.block _ HVL.out))) (fun hHeld => ?_)
        clear hK K
        try simp only [Act.put, List.setIfInBounds_toArray, List.set_cons_zero, List.set_cons_succ]
        refine wpAnyH_take (i := 13) (v := ?_) rfl (by kernel_rfl) (by kernel_rfl) (by kernel_rfl) (fun _ _ _ h => h) (Or.inl ⟨by rfl, ?_⟩) (by assumption) ?_
        rotate_left
        · intro w hSw
          try dsimp only at hSw
          go_simp
          try with_reducible rfl
        try simp only [Act.put, List.setIfInBounds_toArray, List.set_cons_zero, List.set_cons_succ]
        refine wpAnyH_ready (rs := [14]) (by kernel_rfl) (by simp) ?_
        refine AllReadyH.cons rfl (fun K hK => ?_) AllReadyH.nil
        go_simp
        refine hK.out _ _ (HKW.out _ ((Gn.set_keep w4 q _ (show W.heap.size + 1 ≠ wr.heap.size by have := HGL.out; omega)).trans (HK4.out.trans (HB3.out.block _ HVL.out)))) (fun hHeld => ?_)
        clear hK K
        try simp only [Act.put, List.setIfInBounds_toArray, List.set_cons_zero, List.set_cons_succ]
        refine wpAnyH_done (by kernel_rfl) ?_ _
        refine NoPanic.normal ?_
        go_wp2
        go_roundw
        case rel => exact ⟨k + 1, _, by omega, by simp, HS2.out _ _ H4.out, HB4.out⟩
        case measure => simp [intOf]; omega
      refine AllReadyH.cons rfl (fun K hK => ?_) AllReadyH.nil
      · go_simp
        go_at_call 33
        refine (HKC.out _ _ HVB.out HXV.out).mono ?_
        rintro e w3 ⟨u3, rfl, hi3, hb3⟩
        have hR3 := HR2.out.below hb3
        have y3 := hR3.block.cell hqn
        rw [← HVQ.out] at y3
        have HI3 := Lib.hid hi3
        have HB3 := Lib.hid hb3
        have HR3 := Lib.hid hR3
        clear hi3 hb3 hR3
        refine hK.out _ _ (HKW.out _ (HB3.out.block _ HVL.out)) (fun hHeld => ?_)
        clear hK K
        try simp only [Act.put, List.setIfInBounds_toArray, List.set_cons_zero, List.set_cons_succ]
        refine wpAnyH_ready (rs := [7]) (by kernel_rfl) (by simp) ?_
        refine AllReadyH.cons rfl (fun K hK => ?_) AllReadyH.nil
        go_simp
        refine hK.out _ _ (by assumption) (fun hHeld => ?_)
        clear hK K
        try simp only [Act.put, List.setIfInBounds_toArray, List.set_cons_zero, List.set_cons_succ]
        refine wpAnyH_ready (rs := [12]) (by kernel_rfl) (by simp) ?_
        refine AllReadyH.cons rfl (fun K hK => ?_) AllReadyH.nil
        refine step_append_ints _ (by rfl) (.tmp 26) (.tmp 30) (by rfl) (W.heap.size + 1 + 1) vq (goS φ (ps.take k) q).length ((goS φ (ps.take k) q).map (Value.int .i64)) (by simp [Act.eval]) (by have := HR3.out.own q hqn; rwa [← HVQ.out] at this) (fun _ => True) (φ (ps[k]'(by have := HNP.out; omega)).right) u3 (by simp [Act.eval]) HI3.out HLN.out (by have := HR3.out.block.lt; omega) ?_
        intro v4 w4 hown4 hgrow4 hat4
        obtain ⟨A4, c4, e4⟩ := Gn.slice_of hown4
        generalize (goS φ (ps.take k) q).length + (φ (ps[k]'(by have := HNP.out; omega)).right).length = len4 at e4
        have h4 := HR3.out.grow q hqn (φ (ps[k]'(by have := HNP.out; omega)).right) v4 (by rw [← HVQ.out]; exact hgrow4) hown4 (by rw [← HVQ.out]; exact hat4)
        have hg4 := hgrow4.block (W.heap.size + 1) HR3.out.block.lt (fun e => by have := HOB.out _ e.symm; omega)
        have y4 := (Gn.cell_same hg4 q).trans y3
        have yf : w4.frozen? ⟨W.heap.size + 1, q, none⟩ = false := (HR3.out.block.of_block hg4).frozen q
        have HK4 := Lib.hid (hgrow4.block wr.heap.size (Nat.lt_of_lt_of_le HVL.out HB3.out.size) (fun e => by have := HOB.out _ e.symm; omega))
        have HB4 := Lib.hid (show Below W.heap.size W (w4.setCell ⟨W.heap.size + 1, q, none⟩ v4) from (HVB.out.trans (HB3.out.mono HVB.out.size) |>.grown hgrow4 (by have := HB3.out.size; have := HVB.out.size; omega) (fun j hj => by have := (HOB.out j hj).1; omega)).setCell (Nat.le_add_right _ _) _)
        have H4 := Lib.hid h4
        clear hown4 hgrow4 hat4 hg4 h4
        subst e4
        refine hK.out _ _ (HKW.out _ (HK4.out.trans (HB3.out.block _ HVL.out))) (fun hHeld => ?_)
        clear hK K
        try simp only [Act.put, List.setIfInBounds_toArray, List.set_cons_zero, List.set_cons_succ]
        refine wpAnyH_take (i := 13) (v := ?_) rfl (by kernel_rfl) (by kernel_rfl) (by kernel_rfl) (fun _ _ _ h => h) (Or.inl ⟨by rfl, ?_⟩) (by assumption) ?_
        rotate_left
        · intro w hSw
          try dsimp only at hSw
          go_simp
          try with_reducible rfl
        try simp only [Act.put, List.setIfInBounds_toArray, List.set_cons_zero, List.set_cons_succ]
        refine wpAnyH_ready (rs := [14]) (by kernel_rfl) (by simp) ?_
        refine AllReadyH.cons rfl (fun K hK => ?_) AllReadyH.nil
        go_simp
        refine hK.out _ _ (HKW.out _ ((Gn.set_keep w4 q _ (show W.heap.size + 1 ≠ wr.heap.size by have := HGL.out; omega)).trans (HK4.out.trans (HB3.out.block _ HVL.out)))) (fun hHeld => ?_)
        clear hK K
        try simp only [Act.put, List.setIfInBounds_toArray, List.set_cons_zero, List.set_cons_succ]
        refine wpAnyH_done (by kernel_rfl) ?_ _
        refine NoPanic.normal ?_
        go_wp2
        go_roundw
        case rel => exact ⟨k + 1, _, by omega, by simp, HS2.out _ _ H4.out, HB4.out⟩
        case measure => simp [intOf]; omega
    · have HF2 := Lib.hid (show RowsAt W.heap.size (W.heap.size + 1) n (goS φ ps) f wr by rw [List.take_of_length_le (by have := HNP.out; omega)] at hrows; exact hrows)
      have HB := Lib.hid hbel
      clear hrows hbel
      go_wp2
      go_ret
      exact ⟨_, rfl, HF2.out, HB.out⟩

set_option maxHeartbeats 4000000 in
theorem steps_lone (φ : List Int → List Int) (ps : List Prd) (n : Nat) (hn : n ≤ 1048576) (hps : ps.length ≤ 1048576) (hl : ∀ p ∈ ps, 0 ≤ p.left ∧ p.left < (n : Int) ∧ p.right.length ≤ 1048576) (hφ : ∀ r, (φ r).length ≤ r.length) (P : Nat → Prop) (W : World) (B : Nat) (st ru : Int) (An At_ Ap : Option Addr) (cn lt ct cp : Nat) (h : PrdsAt P W ps (.slice Ap ps.length cp))
    (hc : ∀ p ∈ ps, ∀ w u, Below W.heap.size W w → IntsAt P w p.right u → Calls Try.prog 34 #[u, .pointer (some ⟨B, 0, none⟩)] w (TellsInts w (φ p.right))) :
    Calls Try.prog 28 #[.agg #[.int .i64 st, .int .i64 ru, .slice An n cn, .slice At_ lt ct, .slice Ap ps.length cp], .func (.func 34) #[] #[.pointer (some ⟨B, 0, none⟩)]] W fun e w' => ∃ f, e = .returned (.slice (some ⟨W.heap.size + 1, 0, none⟩) n n) ∧ RowsAt W.heap.size (W.heap.size + 1) n (goS φ ps) f w' ∧ Below W.heap.size W w' := by
  obtain ⟨np, hnp⟩ : ∃ np, np = ps.length := ⟨_, rfl⟩
  rw [← hnp] at h hps ⊢
  have HP := Lib.hid h
  have HL := Lib.hid hl
  have HC := Lib.hid hc
  have HNP := Lib.hid hnp
  have HF := Lib.hid hφ
  have hbb : Below W.heap.size W (W.alloc (.cells #[.int .i64 st, .int .i64 ru, .slice An n cn, .slice At_ lt ct, .slice Ap np cp] 30)) := (Below.refl _ _).alloc (Nat.le_refl _) _
  have hmk := run_make_row' (P := Try.prog) 23 22 (.slice none 0 0) 24 rfl rinfo rfl .i64 .i64 n (by omega) (by omega)
  have HG := Lib.hid (fun w : World => World.rowIs_made w (.slice none 0 0) n 22)
  clear h hl hc hnp hφ
  go_enter Try.func28, Try.ntmps28
  go_wp2
  have HBB := Lib.hid hbb
  clear hbb hmk
  go_loopw [15] (fun i wr => ∃ (k : Nat) (f : Nat → Value), k ≤ np ∧ i = .int .i64 k ∧ RowsAt W.heap.size (W.heap.size + 1) n (goS φ (ps.take k)) f wr ∧ Below W.heap.size W wr) (fun i _ => np - (intOf i).toNat)
  case atStart =>
    refine ⟨0, fun _ => .slice none 0 0, Nat.zero_le _, rfl, ⟨by have := HG.out (W.alloc (.cells #[.int .i64 st, .int .i64 ru, .slice An n cn, .slice At_ lt ct, .slice Ap np cp] 30)); simpa using this, by omega, fun i _ => World.ownsRow_nil _ _ _ _, fun i j g _ _ _ h => by cases h⟩, HBB.out.alloc HBB.out.size _⟩
  case round =>
    obtain ⟨k, f, hk, rfl, hrows, hbel⟩ := hrel
    by_cases hlt : k < np
    · have h1 : k < ps.length := by rw [← HNP.out]; exact hlt
      obtain ⟨A', cap', bb, fv, e1, _, e3, e4⟩ := HP.out
      injection e1 with e1 e0 e5
      clear e0
      subst e1
      subst e5
      obtain ⟨eA, hr, _⟩ := e3 (by omega)
      subst eA
      obtain ⟨x0, x1, xi⟩ := e4 k h1
      have hmem : ps[k] ∈ ps := List.getElem_mem h1
      obtain ⟨lf0, lf1, lf2⟩ := HL.out _ hmem
      have X0 := (hbel.cell (p := ⟨bb, k * 2, none⟩) hr).trans x0
      have X1 := (hbel.cell (p := ⟨bb, k * 2 + 1, none⟩) hr).trans x1
      obtain ⟨q, hq⟩ : ∃ q : Nat, ps[k].left = (q : Int) := ⟨ps[k].left.toNat, by omega⟩
      have hqn : q < n := by omega
      rw [hq] at X0
      obtain ⟨Ax, cx, ex⟩ := xi.form
      have hxi := xi
      rw [ex] at X1 hxi
      have hln : (goS φ (ps.take k) q).length + (φ ps[k].right).length ≤ 8796093022208 := by
        have h2 := goS_len φ 1048576 HF.out (ps.take k) (fun p hp => (HL.out p (List.mem_of_mem_take hp)).2.2) q
        have h3 := HF.out ps[k].right
        rw [List.length_take] at h2
        have h4 : min k ps.length * 1048576 ≤ 1048576 * 1048576 := Nat.mul_le_mul_right _ (by omega)
        omega
      have HLN := Lib.hid hln
      have hs2 : ∀ (f' : Nat → Value) (w' : World), RowsAt W.heap.size (W.heap.size + 1) n (fun j => if j = q then goS φ (ps.take k) q ++ φ ps[k].right else goS φ (ps.take k) j) f' w' → RowsAt W.heap.size (W.heap.size + 1) n (goS φ (ps.take (k + 1))) f' w' := fun f' w' h => by
        have e : (fun j => if j = q then goS φ (ps.take k) q ++ φ ps[k].right else goS φ (ps.take k) j) = goS φ (ps.take (k + 1)) := by
          funext j
          rw [List.take_succ_eq_append_getElem h1, goS_snoc φ _ _ q hq]
        rwa [e] at h
      have HS2 := Lib.hid hs2
      have HKC := Lib.hid (HC.out _ hmem)
      have HXI := Lib.hid hxi
      obtain ⟨m, hm⟩ : ∃ m, m = ps[k].right.length := ⟨_, rfl⟩
      rw [← hm] at X1 HXI
      have hx := heap_alloc_new wr (.cells #[.int .i64 q, .slice Ax m cx] 47)
      have hb2 := hbel.alloc hbel.size (.cells #[.int .i64 q, .slice Ax m cx] 47)
      have hr2 := hrows.below ((Below.refl wr.heap.size wr).alloc (Nat.le_refl _) (.cells #[.int .i64 q, .slice Ax m cx] 47))
      have hvl : wr.heap.size < (wr.alloc (.cells #[.int .i64 q, .slice Ax m cx] 47)).heap.size := by simp
      obtain ⟨vq, hvq⟩ : ∃ vq, vq = f q := ⟨_, rfl⟩
      have HVQ := Lib.hid hvq
      have HOB := Lib.hid (fun g (hg : vq.ownBlock = some g) => (by rw [hvq] at hg; exact own_base (hrows.own q hqn) hg : W.heap.size + 1 + 1 ≤ g ∧ g < wr.heap.size))
      have HGL := Lib.hid (show W.heap.size + 1 < wr.heap.size from hrows.block.lt)
      have hqi : (0 : Int) ≤ (q : Int) := by omega
      have hqi2 : (q : Int) < (n : Int) := by omega
      clear e3 e4 xi ex x0 x1 hq hmem lf0 lf1 lf2 hln hs2 hxi hm hvq hrows hbel
      go_wp2_with fail
      generalize hV : World.alloc wr _ = V
      rw [hV] at hx hb2 hr2 hvl
      clear hV
      have HVB := Lib.hid (show Below W.heap.size W V.drew from hb2.drew)
      have HXV := Lib.hid (show IntsAt P V.drew _ _ from (HXI.out.under HVB.out))
      have HR2 := Lib.hid hr2.drew
      have y0 : V.cell? ⟨wr.heap.size, 0, none⟩ = some (.int .i64 q) := cell_of_row _ _ 0 _ _ (0, 0) hx
      have y1 : V.cell? ⟨wr.heap.size, 1, none⟩ = some (.slice Ax m cx) := cell_of_row _ _ 1 _ _ (0, 0) hx
      have y7 : V.cell? ⟨W.heap.size + 1, q, none⟩ = some vq := by rw [HVQ.out]; exact hr2.block.cell hqn
      have HVL := Lib.hid hvl
      have HKW := Lib.hid (fun (w' : World) (e : w'.heap[wr.heap.size]? = V.heap[wr.heap.size]?) => (⟨cell_of_row _ _ 0 _ _ (0, 0) (e.trans hx), cell_of_row _ _ 1 _ _ (0, 0) (e.trans hx)⟩ : w'.cell? ⟨wr.heap.size, 0, none⟩ = some (.int .i64 q) ∧ w'.cell? ⟨wr.heap.size, 1, none⟩ = some (.slice Ax m cx)))
      clear hx hb2 hr2 hvl
      refine wp_region_noPanic ?_
      refine wp_region_held_drew (S := (fun W' => W'.cell? ⟨wr.heap.size, 0, none⟩ = some (.int .i64 q) ∧ W'.cell? ⟨wr.heap.size, 1, none⟩ = some (.slice Ax m cx))) (by kernel_rfl) ?_ (fun hHeld => ?_)
      · exact ⟨y0, y1⟩
      refine wpAnyH_take (i := 0) (v := ?_) rfl (by kernel_rfl) (by kernel_rfl) (by kernel_rfl) (fun _ _ _ h => h) (Or.inl ⟨by rfl, ?_⟩) (by assumption) ?_
      rotate_left
      · intro w hSw
        try dsimp only at hSw
        go_simp
        try with_reducible rfl
      try simp only [Act.put, List.setIfInBounds_toArray, List.set_cons_zero, List.set_cons_succ]
      refine wpAnyH_take (i := 1) (v := ?_) rfl (by kernel_rfl) (by kernel_rfl) (by kernel_rfl) (fun _ _ _ h => h) (Or.inl ⟨by rfl, ?_⟩) (by assumption) ?_
      rotate_left
      · intro w hSw
        try dsimp only at hSw
        go_simp
        try with_reducible rfl
      try simp only [Act.put, List.setIfInBounds_toArray, List.set_cons_zero, List.set_cons_succ]
      refine wpAnyH_take (i := 2) (v := ?_) rfl (by kernel_rfl) (by kernel_rfl) (by kernel_rfl) (fun _ _ _ h => h) (Or.inl ⟨by rfl, ?_⟩) (by assumption) ?_
      rotate_left
      · intro w hSw
        try dsimp only at hSw
        go_simp
        try with_reducible rfl
      try simp only [Act.put, List.setIfInBounds_toArray, List.set_cons_zero, List.set_cons_succ]
      refine wpAnyH_take (i := 3) (v := ?_) rfl (by kernel_rfl) (by kernel_rfl) (by kernel_rfl) (fun _ _ _ h => h) (Or.inl ⟨by rfl, ?_⟩) (by assumption) ?_
      rotate_left
      · intro w hSw
        try dsimp only at hSw
        go_simp
        try with_reducible rfl
      try simp only [Act.put, List.setIfInBounds_toArray, List.set_cons_zero, List.set_cons_succ]
      refine wpAnyH_take (i := 4) (v := ?_) rfl (by kernel_rfl) (by kernel_rfl) (by kernel_rfl) (fun _ _ _ h => h) (Or.inl ⟨by rfl, ?_⟩) (by assumption) ?_
      rotate_left
      · intro w hSw
        try dsimp only at hSw
        go_simp
        try with_reducible rfl
      try simp only [Act.put, List.setIfInBounds_toArray, List.set_cons_zero, List.set_cons_succ]
      refine wpAnyH_take (i := 5) (v := ?_) rfl (by kernel_rfl) (by kernel_rfl) (by kernel_rfl) (fun _ _ _ h => h) (Or.inl ⟨by rfl, ?_⟩) (by assumption) ?_
      rotate_left
      · intro w hSw
        try dsimp only at hSw
        go_simp
        try with_reducible rfl
      try simp only [Act.put, List.setIfInBounds_toArray, List.set_cons_zero, List.set_cons_succ]
      refine wpAnyH_take (i := 6) (v := ?_) rfl (by kernel_rfl) (by kernel_rfl) (by kernel_rfl) (fun _ _ _ h => h) (Or.inl ⟨by rfl, ?_⟩) (by assumption) ?_
      rotate_left
      · intro w hSw
        try dsimp only at hSw
        go_simp
        try with_reducible rfl
      try simp only [Act.put, List.setIfInBounds_toArray, List.set_cons_zero, List.set_cons_succ]
      refine wpAnyH_take (i := 8) (v := ?_) rfl (by kernel_rfl) (by kernel_rfl) (by kernel_rfl) (fun _ _ _ h => h) (Or.inl ⟨by rfl, ?_⟩) (by assumption) ?_
      rotate_left
      · intro w hSw
        try dsimp only at hSw
        go_simp
        try with_reducible rfl
      try simp only [Act.put, List.setIfInBounds_toArray, List.set_cons_zero, List.set_cons_succ]
      refine wpAnyH_take (i := 9) (v := ?_) rfl (by kernel_rfl) (by kernel_rfl) (by kernel_rfl) (fun _ _ _ h => h) (Or.inl ⟨by rfl, ?_⟩) (by assumption) ?_
      rotate_left
      · intro w hSw
        try dsimp only at hSw
        go_simp
        try with_reducible rfl
      try simp only [Act.put, List.setIfInBounds_toArray, List.set_cons_zero, List.set_cons_succ]
      refine wpAnyH_take (i := 10) (v := ?_) rfl (by kernel_rfl) (by kernel_rfl) (by kernel_rfl) (fun _ _ _ h => h) (Or.inl ⟨by rfl, ?_⟩) (by assumption) ?_
      rotate_left
      · intro w hSw
        try dsimp only at hSw
        go_simp
        try with_reducible rfl
      try simp only [Act.put, List.setIfInBounds_toArray, List.set_cons_zero, List.set_cons_succ]
      refine wpAnyH_ready (rs := [7, 11]) (by kernel_rfl) (by simp) ?_
      refine AllReadyH.cons rfl (fun K hK => ?_) ?_
      · go_simp
        refine hK.out _ _ (by assumption) (fun hHeld => ?_)
        clear hK K
        try simp only [Act.put, List.setIfInBounds_toArray, List.set_cons_zero, List.set_cons_succ]
        refine wpAnyH_ready (rs := [11]) (by kernel_rfl) (by simp) ?_
        refine AllReadyH.cons rfl (fun K hK => ?_) AllReadyH.nil
        go_simp
        go_at_call 34
        refine (HKC.out _ _ HVB.out HXV.out).mono ?_
        rintro e w3 ⟨u3, rfl, hi3, hb3⟩
        have hR3 := HR2.out.below hb3
        have y3 := hR3.block.cell hqn
        rw [← HVQ.out] at y3
        have HI3 := Lib.hid hi3
        have HB3 := Lib.hid hb3
        have HR3 := Lib.hid hR3
        clear hi3 hb3 hR3
        refine hK.out _ _ (HKW.out _ (HB3.out.block _ HVL.out)) (fun hHeld => ?_)
        clear hK K
        try simp only [Act.put, List.setIfInBounds_toArray, List.set_cons_zero, List.set_cons_succ]
        refine wpAnyH_ready (rs := [12]) (by kernel_rfl) (by simp) ?_
        refine AllReadyH.cons rfl (fun K hK => ?_) AllReadyH.nil
        refine step_append_ints _ (by rfl) (.tmp 26) (.tmp 30) (by rfl) (W.heap.size + 1 + 1) vq (goS φ (ps.take k) q).length ((goS φ (ps.take k) q).map (Value.int .i64)) (by simp [Act.eval]) (by have := HR3.out.own q hqn; rwa [← HVQ.out] at this) (fun _ => True) (φ (ps[k]'(by have := HNP.out; omega)).right) u3 (by simp [Act.eval]) HI3.out HLN.out (by have := HR3.out.block.lt; omega) ?_
        intro v4 w4 hown4 hgrow4 hat4
        obtain ⟨A4, c4, e4⟩ := Gn.slice_of hown4
        generalize (goS φ (ps.take k) q).length + (φ (ps[k]'(by have := HNP.out; omega)).right).length = len4 at e4
        have h4 := HR3.out.grow q hqn (φ (ps[k]'(by have := HNP.out; omega)).right) v4 (by rw [← HVQ.out]; exact hgrow4) hown4 (by rw [← HVQ.out]; exact hat4)
        have hg4 := hgrow4.block (W.heap.size + 1) HR3.out.block.lt (fun e => by have := HOB.out _ e.symm; omega)
        have y4 := (Gn.cell_same hg4 q).trans y3
        have yf : w4.frozen? ⟨W.heap.size + 1, q, none⟩ = false := (HR3.out.block.of_block hg4).frozen q
        have HK4 := Lib.hid (hgrow4.block wr.heap.size (Nat.lt_of_lt_of_le HVL.out HB3.out.size) (fun e => by have := HOB.out _ e.symm; omega))
        have HB4 := Lib.hid (show Below W.heap.size W (w4.setCell ⟨W.heap.size + 1, q, none⟩ v4) from (HVB.out.trans (HB3.out.mono HVB.out.size) |>.grown hgrow4 (by have := HB3.out.size; have := HVB.out.size; omega) (fun j hj => by have := (HOB.out j hj).1; omega)).setCell (Nat.le_add_right _ _) _)
        have H4 := Lib.hid h4
        clear hown4 hgrow4 hat4 hg4 h4
        subst e4
        refine hK.out _ _ (HKW.out _ (HK4.out.trans (HB3.out.block _ HVL.out))) (fun hHeld => ?_)
        clear hK K
        try simp only [Act.put, List.setIfInBounds_toArray, List.set_cons_zero, List.set_cons_succ]
        refine wpAnyH_take (i := 13) (v := ?_) rfl (by kernel_rfl) (by kernel_rfl) (by kernel_rfl) (fun _ _ _ h => h) (Or.inl ⟨by rfl, ?_⟩) (by assumption) ?_
        rotate_left
        · intro w hSw
          try dsimp only at hSw
          go_simp
          try with_reducible rfl
        try simp only [Act.put, List.setIfInBounds_toArray, List.set_cons_zero, List.set_cons_succ]
        refine wpAnyH_ready (rs := [14]) (by kernel_rfl) (by simp) ?_
        refine AllReadyH.cons rfl (fun K hK => ?_) AllReadyH.nil
        go_simp
        refine hK.out _ _ (HKW.out _ ((Gn.set_keep w4 q _ (show W.heap.size + 1 ≠ wr.heap.size by have := HGL.out; omega)).trans (HK4.out.trans (HB3.out.block _ HVL.out)))) (fun hHeld => ?_)
        clear hK K
        try simp only [Act.put, List.setIfInBounds_toArray, List.set_cons_zero, List.set_cons_succ]
        refine wpAnyH_done (by kernel_rfl) ?_ _
        refine NoPanic.normal ?_
        go_wp2
        go_roundw
        case rel => exact ⟨k + 1, _, by omega, by simp, HS2.out _ _ H4.out, HB4.out⟩
        case measure => simp [intOf]; omega
      refine AllReadyH.cons rfl (fun K hK => ?_) AllReadyH.nil
      · go_simp
        go_at_call 34
        refine (HKC.out _ _ HVB.out HXV.out).mono ?_
        rintro e w3 ⟨u3, rfl, hi3, hb3⟩
        have hR3 := HR2.out.below hb3
        have y3 := hR3.block.cell hqn
        rw [← HVQ.out] at y3
        have HI3 := Lib.hid hi3
        have HB3 := Lib.hid hb3
        have HR3 := Lib.hid hR3
        clear hi3 hb3 hR3
        refine hK.out _ _ (HKW.out _ (HB3.out.block _ HVL.out)) (fun hHeld => ?_)
        clear hK K
        try simp only [Act.put, List.setIfInBounds_toArray, List.set_cons_zero, List.set_cons_succ]
        refine wpAnyH_ready (rs := [7]) (by kernel_rfl) (by simp) ?_
        refine AllReadyH.cons rfl (fun K hK => ?_) AllReadyH.nil
        go_simp
        refine hK.out _ _ (by assumption) (fun hHeld => ?_)
        clear hK K
        try simp only [Act.put, List.setIfInBounds_toArray, List.set_cons_zero, List.set_cons_succ]
        refine wpAnyH_ready (rs := [12]) (by kernel_rfl) (by simp) ?_
        refine AllReadyH.cons rfl (fun K hK => ?_) AllReadyH.nil
        refine step_append_ints _ (by rfl) (.tmp 26) (.tmp 30) (by rfl) (W.heap.size + 1 + 1) vq (goS φ (ps.take k) q).length ((goS φ (ps.take k) q).map (Value.int .i64)) (by simp [Act.eval]) (by have := HR3.out.own q hqn; rwa [← HVQ.out] at this) (fun _ => True) (φ (ps[k]'(by have := HNP.out; omega)).right) u3 (by simp [Act.eval]) HI3.out HLN.out (by have := HR3.out.block.lt; omega) ?_
        intro v4 w4 hown4 hgrow4 hat4
        obtain ⟨A4, c4, e4⟩ := Gn.slice_of hown4
        generalize (goS φ (ps.take k) q).length + (φ (ps[k]'(by have := HNP.out; omega)).right).length = len4 at e4
        have h4 := HR3.out.grow q hqn (φ (ps[k]'(by have := HNP.out; omega)).right) v4 (by rw [← HVQ.out]; exact hgrow4) hown4 (by rw [← HVQ.out]; exact hat4)
        have hg4 := hgrow4.block (W.heap.size + 1) HR3.out.block.lt (fun e => by have := HOB.out _ e.symm; omega)
        have y4 := (Gn.cell_same hg4 q).trans y3
        have yf : w4.frozen? ⟨W.heap.size + 1, q, none⟩ = false := (HR3.out.block.of_block hg4).frozen q
        have HK4 := Lib.hid (hgrow4.block wr.heap.size (Nat.lt_of_lt_of_le HVL.out HB3.out.size) (fun e => by have := HOB.out _ e.symm; omega))
        have HB4 := Lib.hid (show Below W.heap.size W (w4.setCell ⟨W.heap.size + 1, q, none⟩ v4) from (HVB.out.trans (HB3.out.mono HVB.out.size) |>.grown hgrow4 (by have := HB3.out.size; have := HVB.out.size; omega) (fun j hj => by have := (HOB.out j hj).1; omega)).setCell (Nat.le_add_right _ _) _)
        have H4 := Lib.hid h4
        clear hown4 hgrow4 hat4 hg4 h4
        subst e4
        refine hK.out _ _ (HKW.out _ (HK4.out.trans (HB3.out.block _ HVL.out))) (fun hHeld => ?_)
        clear hK K
        try simp only [Act.put, List.setIfInBounds_toArray, List.set_cons_zero, List.set_cons_succ]
        refine wpAnyH_take (i := 13) (v := ?_) rfl (by kernel_rfl) (by kernel_rfl) (by kernel_rfl) (fun _ _ _ h => h) (Or.inl ⟨by rfl, ?_⟩) (by assumption) ?_
        rotate_left
        · intro w hSw
          try dsimp only at hSw
          go_simp
          try with_reducible rfl
        try simp only [Act.put, List.setIfInBounds_toArray, List.set_cons_zero, List.set_cons_succ]
        refine wpAnyH_ready (rs := [14]) (by kernel_rfl) (by simp) ?_
        refine AllReadyH.cons rfl (fun K hK => ?_) AllReadyH.nil
        go_simp
        refine hK.out _ _ (HKW.out _ ((Gn.set_keep w4 q _ (show W.heap.size + 1 ≠ wr.heap.size by have := HGL.out; omega)).trans (HK4.out.trans (HB3.out.block _ HVL.out)))) (fun hHeld => ?_)
        clear hK K
        try simp only [Act.put, List.setIfInBounds_toArray, List.set_cons_zero, List.set_cons_succ]
        refine wpAnyH_done (by kernel_rfl) ?_ _
        refine NoPanic.normal ?_
        go_wp2
        go_roundw
        case rel => exact ⟨k + 1, _, by omega, by simp, HS2.out _ _ H4.out, HB4.out⟩
        case measure => simp [intOf]; omega
    · have HF2 := Lib.hid (show RowsAt W.heap.size (W.heap.size + 1) n (goS φ ps) f wr by rw [List.take_of_length_le (by have := HNP.out; omega)] at hrows; exact hrows)
      have HB := Lib.hid hbel
      clear hrows hbel
      go_wp2
      go_ret
      exact ⟨_, rfl, HF2.out, HB.out⟩

set_option maxHeartbeats 4000000 in
theorem steps_ahead (φ : List Int → List Int) (ps : List Prd) (n : Nat) (hn : n ≤ 1048576) (hps : ps.length ≤ 1048576) (hl : ∀ p ∈ ps, 0 ≤ p.left ∧ p.left < (n : Int) ∧ p.right.length ≤ 1048576) (hφ : ∀ r, (φ r).length ≤ r.length) (P : Nat → Prop) (W : World) (B : Nat) (st ru : Int) (An At_ Ap : Option Addr) (cn lt ct cp : Nat) (h : PrdsAt P W ps (.slice Ap ps.length cp))
    (hc : ∀ p ∈ ps, ∀ w u, Below W.heap.size W w → IntsAt P w p.right u → Calls Try.prog 29 #[u, .pointer (some ⟨B, 0, none⟩)] w (TellsInts w (φ p.right))) :
    Calls Try.prog 28 #[.agg #[.int .i64 st, .int .i64 ru, .slice An n cn, .slice At_ lt ct, .slice Ap ps.length cp], .func (.func 29) #[] #[.pointer (some ⟨B, 0, none⟩)]] W fun e w' => ∃ f, e = .returned (.slice (some ⟨W.heap.size + 1, 0, none⟩) n n) ∧ RowsAt W.heap.size (W.heap.size + 1) n (goS φ ps) f w' ∧ Below W.heap.size W w' := by
  obtain ⟨np, hnp⟩ : ∃ np, np = ps.length := ⟨_, rfl⟩
  rw [← hnp] at h hps ⊢
  have HP := Lib.hid h
  have HL := Lib.hid hl
  have HC := Lib.hid hc
  have HNP := Lib.hid hnp
  have HF := Lib.hid hφ
  have hbb : Below W.heap.size W (W.alloc (.cells #[.int .i64 st, .int .i64 ru, .slice An n cn, .slice At_ lt ct, .slice Ap np cp] 30)) := (Below.refl _ _).alloc (Nat.le_refl _) _
  have hmk := run_make_row' (P := Try.prog) 23 22 (.slice none 0 0) 24 rfl rinfo rfl .i64 .i64 n (by omega) (by omega)
  have HG := Lib.hid (fun w : World => World.rowIs_made w (.slice none 0 0) n 22)
  clear h hl hc hnp hφ
  go_enter Try.func28, Try.ntmps28
  go_wp2
  have HBB := Lib.hid hbb
  clear hbb hmk
  go_loopw [15] (fun i wr => ∃ (k : Nat) (f : Nat → Value), k ≤ np ∧ i = .int .i64 k ∧ RowsAt W.heap.size (W.heap.size + 1) n (goS φ (ps.take k)) f wr ∧ Below W.heap.size W wr) (fun i _ => np - (intOf i).toNat)
  case atStart =>
    refine ⟨0, fun _ => .slice none 0 0, Nat.zero_le _, rfl, ⟨by have := HG.out (W.alloc (.cells #[.int .i64 st, .int .i64 ru, .slice An n cn, .slice At_ lt ct, .slice Ap np cp] 30)); simpa using this, by omega, fun i _ => World.ownsRow_nil _ _ _ _, fun i j g _ _ _ h => by cases h⟩, HBB.out.alloc HBB.out.size _⟩
  case round =>
    obtain ⟨k, f, hk, rfl, hrows, hbel⟩ := hrel
    by_cases hlt : k < np
    · have h1 : k < ps.length := by rw [← HNP.out]; exact hlt
      obtain ⟨A', cap', bb, fv, e1, _, e3, e4⟩ := HP.out
      injection e1 with e1 e0 e5
      clear e0
      subst e1
      subst e5
      obtain ⟨eA, hr, _⟩ := e3 (by omega)
      subst eA
      obtain ⟨x0, x1, xi⟩ := e4 k h1
      have hmem : ps[k] ∈ ps := List.getElem_mem h1
      obtain ⟨lf0, lf1, lf2⟩ := HL.out _ hmem
      have X0 := (hbel.cell (p := ⟨bb, k * 2, none⟩) hr).trans x0
      have X1 := (hbel.cell (p := ⟨bb, k * 2 + 1, none⟩) hr).trans x1
      obtain ⟨q, hq⟩ : ∃ q : Nat, ps[k].left = (q : Int) := ⟨ps[k].left.toNat, by omega⟩
      have hqn : q < n := by omega
      rw [hq] at X0
      obtain ⟨Ax, cx, ex⟩ := xi.form
      have hxi := xi
      rw [ex] at X1 hxi
      have hln : (goS φ (ps.take k) q).length + (φ ps[k].right).length ≤ 8796093022208 := by
        have h2 := goS_len φ 1048576 HF.out (ps.take k) (fun p hp => (HL.out p (List.mem_of_mem_take hp)).2.2) q
        have h3 := HF.out ps[k].right
        rw [List.length_take] at h2
        have h4 : min k ps.length * 1048576 ≤ 1048576 * 1048576 := Nat.mul_le_mul_right _ (by omega)
        omega
      have HLN := Lib.hid hln
      have hs2 : ∀ (f' : Nat → Value) (w' : World), RowsAt W.heap.size (W.heap.size + 1) n (fun j => if j = q then goS φ (ps.take k) q ++ φ ps[k].right else goS φ (ps.take k) j) f' w' → RowsAt W.heap.size (W.heap.size + 1) n (goS φ (ps.take (k + 1))) f' w' := fun f' w' h => by
        have e : (fun j => if j = q then goS φ (ps.take k) q ++ φ ps[k].right else goS φ (ps.take k) j) = goS φ (ps.take (k + 1)) := by
          funext j
          rw [List.take_succ_eq_append_getElem h1, goS_snoc φ _ _ q hq]
        rwa [e] at h
      have HS2 := Lib.hid hs2
      have HKC := Lib.hid (HC.out _ hmem)
      have HXI := Lib.hid hxi
      obtain ⟨m, hm⟩ : ∃ m, m = ps[k].right.length := ⟨_, rfl⟩
      rw [← hm] at X1 HXI
      have hx := heap_alloc_new wr (.cells #[.int .i64 q, .slice Ax m cx] 47)
      have hb2 := hbel.alloc hbel.size (.cells #[.int .i64 q, .slice Ax m cx] 47)
      have hr2 := hrows.below ((Below.refl wr.heap.size wr).alloc (Nat.le_refl _) (.cells #[.int .i64 q, .slice Ax m cx] 47))
      have hvl : wr.heap.size < (wr.alloc (.cells #[.int .i64 q, .slice Ax m cx] 47)).heap.size := by simp
      obtain ⟨vq, hvq⟩ : ∃ vq, vq = f q := ⟨_, rfl⟩
      have HVQ := Lib.hid hvq
      have HOB := Lib.hid (fun g (hg : vq.ownBlock = some g) => (by rw [hvq] at hg; exact own_base (hrows.own q hqn) hg : W.heap.size + 1 + 1 ≤ g ∧ g < wr.heap.size))
      have HGL := Lib.hid (show W.heap.size + 1 < wr.heap.size from hrows.block.lt)
      have hqi : (0 : Int) ≤ (q : Int) := by omega
      have hqi2 : (q : Int) < (n : Int) := by omega
      clear e3 e4 xi ex x0 x1 hq hmem lf0 lf1 lf2 hln hs2 hxi hm hvq hrows hbel
      go_wp2_with fail
      generalize hV : World.alloc wr _ = V
      rw [hV] at hx hb2 hr2 hvl
      clear hV
      have HVB := Lib.hid (show Below W.heap.size W V.drew from hb2.drew)
      have HXV := Lib.hid (show IntsAt P V.drew _ _ from (HXI.out.under HVB.out))
      have HR2 := Lib.hid hr2.drew
      have y0 : V.cell? ⟨wr.heap.size, 0, none⟩ = some (.int .i64 q) := cell_of_row _ _ 0 _ _ (0, 0) hx
      have y1 : V.cell? ⟨wr.heap.size, 1, none⟩ = some (.slice Ax m cx) := cell_of_row _ _ 1 _ _ (0, 0) hx
      have y7 : V.cell? ⟨W.heap.size + 1, q, none⟩ = some vq := by rw [HVQ.out]; exact hr2.block.cell hqn
      have HVL := Lib.hid hvl
      have HKW := Lib.hid (fun (w' : World) (e : w'.heap[wr.heap.size]? = V.heap[wr.heap.size]?) => (⟨cell_of_row _ _ 0 _ _ (0, 0) (e.trans hx), cell_of_row _ _ 1 _ _ (0, 0) (e.trans hx)⟩ : w'.cell? ⟨wr.heap.size, 0, none⟩ = some (.int .i64 q) ∧ w'.cell? ⟨wr.heap.size, 1, none⟩ = some (.slice Ax m cx)))
      clear hx hb2 hr2 hvl
      refine wp_region_noPanic ?_
      refine wp_region_held_drew (S := (fun W' => W'.cell? ⟨wr.heap.size, 0, none⟩ = some (.int .i64 q) ∧ W'.cell? ⟨wr.heap.size, 1, none⟩ = some (.slice Ax m cx))) (by kernel_rfl) ?_ (fun hHeld => ?_)
      · exact ⟨y0, y1⟩
      refine wpAnyH_take (i := 0) (v := ?_) rfl (by kernel_rfl) (by kernel_rfl) (by kernel_rfl) (fun _ _ _ h => h) (Or.inl ⟨by rfl, ?_⟩) (by assumption) ?_
      rotate_left
      · intro w hSw
        try dsimp only at hSw
        go_simp
        try with_reducible rfl
      try simp only [Act.put, List.setIfInBounds_toArray, List.set_cons_zero, List.set_cons_succ]
      refine wpAnyH_take (i := 1) (v := ?_) rfl (by kernel_rfl) (by kernel_rfl) (by kernel_rfl) (fun _ _ _ h => h) (Or.inl ⟨by rfl, ?_⟩) (by assumption) ?_
      rotate_left
      · intro w hSw
        try dsimp only at hSw
        go_simp
        try with_reducible rfl
      try simp only [Act.put, List.setIfInBounds_toArray, List.set_cons_zero, List.set_cons_succ]
      refine wpAnyH_take (i := 2) (v := ?_) rfl (by kernel_rfl) (by kernel_rfl) (by kernel_rfl) (fun _ _ _ h => h) (Or.inl ⟨by rfl, ?_⟩) (by assumption) ?_
      rotate_left
      · intro w hSw
        try dsimp only at hSw
        go_simp
        try with_reducible rfl
      try simp only [Act.put, List.setIfInBounds_toArray, List.set_cons_zero, List.set_cons_succ]
      refine wpAnyH_take (i := 3) (v := ?_) rfl (by kernel_rfl) (by kernel_rfl) (by kernel_rfl) (fun _ _ _ h => h) (Or.inl ⟨by rfl, ?_⟩) (by assumption) ?_
      rotate_left
      · intro w hSw
        try dsimp only at hSw
        go_simp
        try with_reducible rfl
      try simp only [Act.put, List.setIfInBounds_toArray, List.set_cons_zero, List.set_cons_succ]
      refine wpAnyH_take (i := 4) (v := ?_) rfl (by kernel_rfl) (by kernel_rfl) (by kernel_rfl) (fun _ _ _ h => h) (Or.inl ⟨by rfl, ?_⟩) (by assumption) ?_
      rotate_left
      · intro w hSw
        try dsimp only at hSw
        go_simp
        try with_reducible rfl
      try simp only [Act.put, List.setIfInBounds_toArray, List.set_cons_zero, List.set_cons_succ]
      refine wpAnyH_take (i := 5) (v := ?_) rfl (by kernel_rfl) (by kernel_rfl) (by kernel_rfl) (fun _ _ _ h => h) (Or.inl ⟨by rfl, ?_⟩) (by assumption) ?_
      rotate_left
      · intro w hSw
        try dsimp only at hSw
        go_simp
        try with_reducible rfl
      try simp only [Act.put, List.setIfInBounds_toArray, List.set_cons_zero, List.set_cons_succ]
      refine wpAnyH_take (i := 6) (v := ?_) rfl (by kernel_rfl) (by kernel_rfl) (by kernel_rfl) (fun _ _ _ h => h) (Or.inl ⟨by rfl, ?_⟩) (by assumption) ?_
      rotate_left
      · intro w hSw
        try dsimp only at hSw
        go_simp
        try with_reducible rfl
      try simp only [Act.put, List.setIfInBounds_toArray, List.set_cons_zero, List.set_cons_succ]
      refine wpAnyH_take (i := 8) (v := ?_) rfl (by kernel_rfl) (by kernel_rfl) (by kernel_rfl) (fun _ _ _ h => h) (Or.inl ⟨by rfl, ?_⟩) (by assumption) ?_
      rotate_left
      · intro w hSw
        try dsimp only at hSw
        go_simp
        try with_reducible rfl
      try simp only [Act.put, List.setIfInBounds_toArray, List.set_cons_zero, List.set_cons_succ]
      refine wpAnyH_take (i := 9) (v := ?_) rfl (by kernel_rfl) (by kernel_rfl) (by kernel_rfl) (fun _ _ _ h => h) (Or.inl ⟨by rfl, ?_⟩) (by assumption) ?_
      rotate_left
      · intro w hSw
        try dsimp only at hSw
        go_simp
        try with_reducible rfl
      try simp only [Act.put, List.setIfInBounds_toArray, List.set_cons_zero, List.set_cons_succ]
      refine wpAnyH_take (i := 10) (v := ?_) rfl (by kernel_rfl) (by kernel_rfl) (by kernel_rfl) (fun _ _ _ h => h) (Or.inl ⟨by rfl, ?_⟩) (by assumption) ?_
      rotate_left
      · intro w hSw
        try dsimp only at hSw
        go_simp
        try with_reducible rfl
      try simp only [Act.put, List.setIfInBounds_toArray, List.set_cons_zero, List.set_cons_succ]
      refine wpAnyH_ready (rs := [7, 11]) (by kernel_rfl) (by simp) ?_
      refine AllReadyH.cons rfl (fun K hK => ?_) ?_
      · go_simp
        refine hK.out _ _ (by assumption) (fun hHeld => ?_)
        clear hK K
        try simp only [Act.put, List.setIfInBounds_toArray, List.set_cons_zero, List.set_cons_succ]
        refine wpAnyH_ready (rs := [11]) (by kernel_rfl) (by simp) ?_
        refine AllReadyH.cons rfl (fun K hK => ?_) AllReadyH.nil
        go_simp
        go_at_call 29
        refine (HKC.out _ _ HVB.out HXV.out).mono ?_
        rintro e w3 ⟨u3, rfl, hi3, hb3⟩
        have hR3 := HR2.out.below hb3
        have y3 := hR3.block.cell hqn
        rw [← HVQ.out] at y3
        have HI3 := Lib.hid hi3
        have HB3 := Lib.hid hb3
        have HR3 := Lib.hid hR3
        clear hi3 hb3 hR3
        refine hK.out _ _ (HKW.out _ (HB3.out.block _ HVL.out)) (fun hHeld => ?_)
        clear hK K
        try simp only [Act.put, List.setIfInBounds_toArray, List.set_cons_zero, List.set_cons_succ]
        refine wpAnyH_ready (rs := [12]) (by kernel_rfl) (by simp) ?_
        refine AllReadyH.cons rfl (fun K hK => ?_) AllReadyH.nil
        refine step_append_ints _ (by rfl) (.tmp 26) (.tmp 30) (by rfl) (W.heap.size + 1 + 1) vq (goS φ (ps.take k) q).length ((goS φ (ps.take k) q).map (Value.int .i64)) (by simp [Act.eval]) (by have := HR3.out.own q hqn; rwa [← HVQ.out] at this) (fun _ => True) (φ (ps[k]'(by have := HNP.out; omega)).right) u3 (by simp [Act.eval]) HI3.out HLN.out (by have := HR3.out.block.lt; omega) ?_
        intro v4 w4 hown4 hgrow4 hat4
        obtain ⟨A4, c4, e4⟩ := Gn.slice_of hown4
        generalize (goS φ (ps.take k) q).length + (φ (ps[k]'(by have := HNP.out; omega)).right).length = len4 at e4
        have h4 := HR3.out.grow q hqn (φ (ps[k]'(by have := HNP.out; omega)).right) v4 (by rw [← HVQ.out]; exact hgrow4) hown4 (by rw [← HVQ.out]; exact hat4)
        have hg4 := hgrow4.block (W.heap.size + 1) HR3.out.block.lt (fun e => by have := HOB.out _ e.symm; omega)
        have y4 := (Gn.cell_same hg4 q).trans y3
        have yf : w4.frozen? ⟨W.heap.size + 1, q, none⟩ = false := (HR3.out.block.of_block hg4).frozen q
        have HK4 := Lib.hid (hgrow4.block wr.heap.size (Nat.lt_of_lt_of_le HVL.out HB3.out.size) (fun e => by have := HOB.out _ e.symm; omega))
        have HB4 := Lib.hid (show Below W.heap.size W (w4.setCell ⟨W.heap.size + 1, q, none⟩ v4) from (HVB.out.trans (HB3.out.mono HVB.out.size) |>.grown hgrow4 (by have := HB3.out.size; have := HVB.out.size; omega) (fun j hj => by have := (HOB.out j hj).1; omega)).setCell (Nat.le_add_right _ _) _)
        have H4 := Lib.hid h4
        clear hown4 hgrow4 hat4 hg4 h4
        subst e4
        refine hK.out _ _ (HKW.out _ (HK4.out.trans (HB3.out.block _ HVL.out))) (fun hHeld => ?_)
        clear hK K
        try simp only [Act.put, List.setIfInBounds_toArray, List.set_cons_zero, List.set_cons_succ]
        refine wpAnyH_take (i := 13) (v := ?_) rfl (by kernel_rfl) (by kernel_rfl) (by kernel_rfl) (fun _ _ _ h => h) (Or.inl ⟨by rfl, ?_⟩) (by assumption) ?_
        rotate_left
        · intro w hSw
          try dsimp only at hSw
          go_simp
          try with_reducible rfl
        try simp only [Act.put, List.setIfInBounds_toArray, List.set_cons_zero, List.set_cons_succ]
        refine wpAnyH_ready (rs := [14]) (by kernel_rfl) (by simp) ?_
        refine AllReadyH.cons rfl (fun K hK => ?_) AllReadyH.nil
        go_simp
        refine hK.out _ _ (HKW.out _ ((Gn.set_keep w4 q _ (show W.heap.size + 1 ≠ wr.heap.size by have := HGL.out; omega)).trans (HK4.out.trans (HB3.out.block _ HVL.out)))) (fun hHeld => ?_)
        clear hK K
        try simp only [Act.put, List.setIfInBounds_toArray, List.set_cons_zero, List.set_cons_succ]
        refine wpAnyH_done (by kernel_rfl) ?_ _
        refine NoPanic.normal ?_
        go_wp2
        go_roundw
        case rel => exact ⟨k + 1, _, by omega, by simp, HS2.out _ _ H4.out, HB4.out⟩
        case measure => simp [intOf]; omega
      refine AllReadyH.cons rfl (fun K hK => ?_) AllReadyH.nil
      · go_simp
        go_at_call 29
        refine (HKC.out _ _ HVB.out HXV.out).mono ?_
        rintro e w3 ⟨u3, rfl, hi3, hb3⟩
        have hR3 := HR2.out.below hb3
        have y3 := hR3.block.cell hqn
        rw [← HVQ.out] at y3
        have HI3 := Lib.hid hi3
        have HB3 := Lib.hid hb3
        have HR3 := Lib.hid hR3
        clear hi3 hb3 hR3
        refine hK.out _ _ (HKW.out _ (HB3.out.block _ HVL.out)) (fun hHeld => ?_)
        clear hK K
        try simp only [Act.put, List.setIfInBounds_toArray, List.set_cons_zero, List.set_cons_succ]
        refine wpAnyH_ready (rs := [7]) (by kernel_rfl) (by simp) ?_
        refine AllReadyH.cons rfl (fun K hK => ?_) AllReadyH.nil
        go_simp
        refine hK.out _ _ (by assumption) (fun hHeld => ?_)
        clear hK K
        try simp only [Act.put, List.setIfInBounds_toArray, List.set_cons_zero, List.set_cons_succ]
        refine wpAnyH_ready (rs := [12]) (by kernel_rfl) (by simp) ?_
        refine AllReadyH.cons rfl (fun K hK => ?_) AllReadyH.nil
        refine step_append_ints _ (by rfl) (.tmp 26) (.tmp 30) (by rfl) (W.heap.size + 1 + 1) vq (goS φ (ps.take k) q).length ((goS φ (ps.take k) q).map (Value.int .i64)) (by simp [Act.eval]) (by have := HR3.out.own q hqn; rwa [← HVQ.out] at this) (fun _ => True) (φ (ps[k]'(by have := HNP.out; omega)).right) u3 (by simp [Act.eval]) HI3.out HLN.out (by have := HR3.out.block.lt; omega) ?_
        intro v4 w4 hown4 hgrow4 hat4
        obtain ⟨A4, c4, e4⟩ := Gn.slice_of hown4
        generalize (goS φ (ps.take k) q).length + (φ (ps[k]'(by have := HNP.out; omega)).right).length = len4 at e4
        have h4 := HR3.out.grow q hqn (φ (ps[k]'(by have := HNP.out; omega)).right) v4 (by rw [← HVQ.out]; exact hgrow4) hown4 (by rw [← HVQ.out]; exact hat4)
        have hg4 := hgrow4.block (W.heap.size + 1) HR3.out.block.lt (fun e => by have := HOB.out _ e.symm; omega)
        have y4 := (Gn.cell_same hg4 q).trans y3
        have yf : w4.frozen? ⟨W.heap.size + 1, q, none⟩ = false := (HR3.out.block.of_block hg4).frozen q
        have HK4 := Lib.hid (hgrow4.block wr.heap.size (Nat.lt_of_lt_of_le HVL.out HB3.out.size) (fun e => by have := HOB.out _ e.symm; omega))
        have HB4 := Lib.hid (show Below W.heap.size W (w4.setCell ⟨W.heap.size + 1, q, none⟩ v4) from (HVB.out.trans (HB3.out.mono HVB.out.size) |>.grown hgrow4 (by have := HB3.out.size; have := HVB.out.size; omega) (fun j hj => by have := (HOB.out j hj).1; omega)).setCell (Nat.le_add_right _ _) _)
        have H4 := Lib.hid h4
        clear hown4 hgrow4 hat4 hg4 h4
        subst e4
        refine hK.out _ _ (HKW.out _ (HK4.out.trans (HB3.out.block _ HVL.out))) (fun hHeld => ?_)
        clear hK K
        try simp only [Act.put, List.setIfInBounds_toArray, List.set_cons_zero, List.set_cons_succ]
        refine wpAnyH_take (i := 13) (v := ?_) rfl (by kernel_rfl) (by kernel_rfl) (by kernel_rfl) (fun _ _ _ h => h) (Or.inl ⟨by rfl, ?_⟩) (by assumption) ?_
        rotate_left
        · intro w hSw
          try dsimp only at hSw
          go_simp
          try with_reducible rfl
        try simp only [Act.put, List.setIfInBounds_toArray, List.set_cons_zero, List.set_cons_succ]
        refine wpAnyH_ready (rs := [14]) (by kernel_rfl) (by simp) ?_
        refine AllReadyH.cons rfl (fun K hK => ?_) AllReadyH.nil
        go_simp
        refine hK.out _ _ (HKW.out _ ((Gn.set_keep w4 q _ (show W.heap.size + 1 ≠ wr.heap.size by have := HGL.out; omega)).trans (HK4.out.trans (HB3.out.block _ HVL.out)))) (fun hHeld => ?_)
        clear hK K
        try simp only [Act.put, List.setIfInBounds_toArray, List.set_cons_zero, List.set_cons_succ]
        refine wpAnyH_done (by kernel_rfl) ?_ _
        refine NoPanic.normal ?_
        go_wp2
        go_roundw
        case rel => exact ⟨k + 1, _, by omega, by simp, HS2.out _ _ H4.out, HB4.out⟩
        case measure => simp [intOf]; omega
    · have HF2 := Lib.hid (show RowsAt W.heap.size (W.heap.size + 1) n (goS φ ps) f wr by rw [List.take_of_length_le (by have := HNP.out; omega)] at hrows; exact hrows)
      have HB := Lib.hid hbel
      clear hrows hbel
      go_wp2
      go_ret
      exact ⟨_, rfl, HF2.out, HB.out⟩
end Go.Proofs.Ytlkijnglpllcdaa.Fx
