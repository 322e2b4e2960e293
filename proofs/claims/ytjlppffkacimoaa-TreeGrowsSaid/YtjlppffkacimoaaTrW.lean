/-
  Layer 14: the walk of use.
-/
import Derived.Test.YtjlppffkacimoaaTrV
namespace Go.Proofs.Ytjlppffkacimoaa.Tr
open Go.RowKit Go.Shelf
open Gn (Asks)
open Fx (IntsAt own_of_block own_base Prd PG)
attribute [local go_sem] Oper.semAt_some
set_option maxRecDepth 100000
set_option linter.unusedSimpArgs false
set_option linter.unusedVariables false

/-- What a production of this left and right side makes of the symbols. -/
def stepS (now : List Int) (left : Int) (r : List Int) : Except Nat (List Int) :=
  match now[negs now]? with
  | none => .error 16
  | some x => if x ≠ left then .error 7 else if 65537 < now.length + r.length then .error 6 else .ok (now.take (negs now) ++ r ++ now.drop (negs now + 1))
theorem stepR_is {g : PG} {now : List Int} {n : Nat} (hn : n < g.prods.length) : stepR g now n = stepS now g.prods[n].left g.prods[n].right := by
  unfold stepR stepS
  rw [if_neg (by omega), Int.toNat_natCast, List.getElem?_eq_getElem hn]
  rfl
theorem stepS_over {A now : List Int} {left : Int} {r : List Int} (h : Stand A [] now) : stepS now left r = .error 16 := by
  unfold stepS
  simp only [h.over, List.getElem?_eq_none (Nat.le_refl _)]
theorem stepS_at {A B now : List Int} {x left : Int} {r : List Int} (h : Stand A (B ++ [x]) now) (hx : ¬ x < 0) :
    stepS now left r = if x ≠ left then .error 7 else if 65537 < A.length + B.length + 1 + r.length then .error 6 else .ok (A ++ r ++ B.reverse) := by
  obtain ⟨h1, h2, h3, h4, h5⟩ := h.place hx
  unfold stepS
  simp only [h2, h3, h4, h5]
theorem cell_dn2 {w : World} {a : Addr} {v : Value} (h : w.cell? a = some v) (N : Nat) : (w.drewN N).cell? a = some v :=
  ((Gn.below_drewN (Below.refl w.heap.size w) N).cell (World.block_lt_of_cell? w a h)).trans h
/-- What use leaves. -/
def Used (lo b : Nat) (R : Except Nat (List Int)) (W : World) (e : Ending) (w' : World) : Prop := Below lo W w' ∧
  match R with
  | .error c => e = .returned (.int .i64 c)
  | .ok m => e = .returned (.int .i64 0) ∧ ∃ A B va vb, SyAt lo b A B va vb w' ∧ Stand A B m
theorem Used.no {lo b c : Nat} {R : Except Nat (List Int)} {W w' : World} {e : Ending} (h : R = .error c) (hb : Below lo W w') (he : e = .returned (.int .i64 c)) : Used lo b R W e w' := by
  subst h
  exact ⟨hb, he⟩
theorem SyAt.same {lo b : Nat} {A B : List Int} {va vb : Value} {W W' : World} (h : SyAt lo b A B va vb W) (hk : ∀ k, k < W.heap.size → W'.heap[k]? = W.heap[k]?) : SyAt lo b A B va vb W' :=
  ⟨(hk b (Gn.heap_lt h.box)).trans h.box, own_of_block h.ahead fun g e => hk g (own_base h.ahead e).2, own_of_block h.behind fun g e => hk g (own_base h.behind e).2, h.apart, h.offA, h.offB, h.low⟩
theorem own_type {W : World} {lo n g t : Nat} {v : Value} {xs : List Value} {cs : Array Value} {fr : Nat × Nat} (h : W.ownsRow lo 3 1 v n xs) (hg : W.heap[g]? = some (.cells cs t fr)) (ht : t ≠ 3) : v.ownBlock ≠ some g := fun e => by
  obtain ⟨cur, e3⟩ := own_cells h e
  rw [hg] at e3
  injection e3 with e3
  injection e3 with _ e3 _
  exact ht e3
theorem cells_of_cell {w : World} {b j : Nat} {v : Value} (h : w.cell? ⟨b, j, none⟩ = some v) : ∃ cs t fr, w.heap[b]? = some (Obj.cells cs t fr) := by
  unfold World.cell? at h
  cases hb : w.heap[b]? with
  | none => rw [hb] at h; simp at h
  | some o =>
    rw [hb] at h
    cases o <;> first | exact ⟨_, _, _, rfl⟩ | (simp at h)
theorem SyAt.pop {lo b : Nat} {A B : List Int} {x : Int} {va : Value} {g cp : Nat} {w w3 : World} (h : SyAt lo b A (B ++ [x]) va (.slice (some ⟨g, 0, none⟩) (B.length + 1) cp) w) (hk : ∀ k : Nat, w3.heap[k]? = w.heap[k]?) :
    SyAt lo b A B va (.slice (some ⟨g, 0, none⟩) B.length cp) (w3.setCell ⟨b, 1, none⟩ (.slice (some ⟨g, 0, none⟩) B.length cp)) := by
  have gb : g ≠ b := fun e => h.offB (by rw [e]; rfl)
  have hset : ∀ k, k ≠ b → (w3.setCell ⟨b, 1, none⟩ (.slice (some ⟨g, 0, none⟩) B.length cp)).heap[k]? = w.heap[k]? := fun k e => (Gn.set_keep _ _ _ (Ne.symm e)).trans (hk k)
  refine ⟨Gn.heap_set ((hk b).trans h.box) 1 _, own_of_block h.ahead fun k e => hset k (fun e2 => h.offA (by rw [e, e2])), ?_, fun k e e2 => h.apart k e (by rw [← e2]; rfl), h.offA, fun e => gb (by injection e), h.low⟩
  have hp : w.ownsRow lo 3 1 (.slice (some ⟨g, 0, none⟩) B.length cp) B.length (B.map (Value.int .i64)) := ownsRow_pop (last := [.int .i64 x]) (by simp) (by have := h.behind; rwa [List.length_append, List.length_singleton, List.map_append, List.map_singleton] at this)
  exact own_of_block hp fun k e => hset k (by have e : g = k := (by injection e); omega)
set_option maxHeartbeats 16000000 in
theorem use_in (n : Nat) (hn : 3 ≤ n) (lo b : Nat) (now : List Int) (hnow : now.length ≤ 1099511627776) (A B : List Int) (va vb : Value) (W : World) (h : SyAt lo b A B va vb W) (hs : Stand A B now) (left : Int) (r : List Int) (hr : r.length ≤ 1099511627776) (vr : Value) (hri : IntsAt (fun k => k < lo) W r vr) (hlo : lo ≤ W.heap.size) :
    CallsIn Fence.wide n Try.prog 51 #[.pointer (some ⟨b, 0, none⟩), .agg #[.int .i64 left, vr]] W fun e w' => Used lo b (stepS now left r) W e w' := by
  have h1 : 1 ≤ n := by omega
  obtain ⟨i0, hi0, hz0, hz1, hz2⟩ := info_parts Fx.iinfo
  obtain ⟨Ar, cr, br, rfl, hr1, hr2, hr3⟩ := hri
  obtain ⟨R, hR⟩ : ∃ R, R = stepS now left r := ⟨_, rfl⟩
  rw [← hR]
  obtain ⟨rl, hrl⟩ : ∃ rl, rl = r.length := ⟨_, rfl⟩
  rw [← hrl] at hr hr1 hr2 ⊢
  obtain ⟨V, hV⟩ : ∃ V, V = (W.alloc (.cells #[.pointer (some ⟨b, 0, none⟩)] 136)).alloc (.cells #[.int .i64 left, .slice Ar rl cr] 79) := ⟨_, rfl⟩
  have hVz : V.heap.size = W.heap.size + 2 := by rw [hV]; simp
  have hVk : ∀ k, k < W.heap.size → V.heap[k]? = W.heap[k]? := fun k hk => by rw [hV]; exact (heap_alloc_old _ _ (by simp; omega)).trans (heap_alloc_old _ _ hk)
  have hVx : V.heap[W.heap.size]? = some (.cells #[.pointer (some ⟨b, 0, none⟩)] 136 (0, 0)) := by rw [hV]; exact (heap_alloc_old _ _ (by simp)).trans (heap_alloc_new W _)
  have hVp : V.heap[W.heap.size + 1]? = some (.cells #[.int .i64 left, .slice Ar rl cr] 79 (0, 0)) := by
    rw [hV]; have := heap_alloc_new (W.alloc (.cells #[.pointer (some ⟨b, 0, none⟩)] 136)) (.cells #[.int .i64 left, .slice Ar rl cr] 79)
    simpa using this
  have hVB : Below lo W V := by rw [hV]; exact ((Below.refl lo W).alloc hlo _).alloc (by simp; omega) _
  have hsk := skip_any lo b now hnow A B va vb V (h.same hVk) hs
  have hbz := Gn.heap_lt h.box
  have hva := fun g e => (own_base h.ahead e (g := g)).2
  have HV := Lib.hid hV
  have HVZ := Lib.hid hVz
  have HVB := Lib.hid hVB
  have HVX := Lib.hid hVx
  have HVP := Lib.hid hVp
  have HR := Lib.hid hR
  have HRL := Lib.hid hrl
  have HR2 := Lib.hid hr2
  have HR3 := Lib.hid hr3
  have HVA := Lib.hid hva
  have HVK := Lib.hid hVk
  obtain ⟨bx, hbx⟩ : ∃ bx, bx = W.heap.size := ⟨_, rfl⟩
  have HBX := Lib.hid hbx
  clear hV hVz hVB hVx hVp hR hrl hr2 hr3 hva h hs hVk hbx
  refine callsIn_of_wp_marks Try.func51 rfl trivial ?_ rfl
  simp only [Try.ntmps51, List.size_toArray, List.length_cons, List.length_nil, Nat.reduceAdd, Nat.reduceSub, Array.replicate_succ, Array.replicate_zero, List.push_toArray, List.append_toArray, List.nil_append, List.cons_append]
  refine wpIn_wide.2 ?_
  go_upto_region 1 with fail
  rw [← HV.out]
  rw [← HBX.out]
  have cx := cell_one HVX.out
  rw [← HBX.out] at cx
  go_upto_region 2 with (go_at_call 74; refine hsk.mono ?_; rintro e w1 ⟨rfl, A1, B1, va1, vb1, hsy, hst, hnn, hb1, hfr⟩)
  have hB1 := HVB.out.trans hb1
  have hxx : w1.heap[bx]? = some (.cells #[.pointer (some ⟨b, 0, none⟩)] 136 (0, 0)) := by
    have h9 := HVX.out
    rw [← HBX.out] at h9
    exact (hfr.1 bx (Gn.heap_lt h9) (by rw [HBX.out]; omega) (fun e => by have := HVA.out _ e; rw [HBX.out] at this; omega)).trans h9
  have hxp : w1.heap[bx + 1]? = some (.cells #[.int .i64 left, .slice Ar rl cr] 79 (0, 0)) := by
    have h9 := HVP.out
    rw [← HBX.out] at h9
    exact (hfr.1 (bx + 1) (Gn.heap_lt h9) (by rw [HBX.out]; omega) (fun e => by have := HVA.out _ e; rw [HBX.out] at this; omega)).trans h9
  have hrr : ∀ (i : Nat) (h : i < r.length), w1.cell? ⟨br, i, none⟩ = some (.int .i64 r[i]) := fun i hi => by
    have h9 := HR2.out (by rw [HRL.out]; omega)
    rw [hB1.cell (p := ⟨br, i, none⟩) h9.2.2]
    exact HR3.out i hi
  have cx := cell_one hxx
  have p0 := cell_of_row _ _ 0 _ _ (0, 0) hxp
  have p1 := cell_of_row _ _ 1 _ _ (0, 0) hxp
  have HXX := Lib.hid hxx
  have HXP := Lib.hid hxp
  have HRR := Lib.hid hrr
  have HB1 := Lib.hid hB1
  have HNN := Lib.hid hnn
  have HF := Lib.hid hfr
  have HF2 := Lib.hid hb1.size
  clear hxx hxp hrr hB1 hnn hfr hb1 hsk
  obtain ⟨Aa, ca, rfl⟩ := Gn.slice_of hsy.ahead
  obtain ⟨Ab, cb, rfl⟩ := Gn.slice_of hsy.behind
  have hal : A1.length + B1.length = now.length := by rw [← hst.all]; simp
  rcases hst.last with rfl | ⟨B2, x, rfl⟩
  · have c1 := cell_of_row _ _ 1 _ _ (0, 0) hsy.box
    have HE := Lib.hid (stepS_over (left := left) (r := r) hst)
    clear hsy hst
    go_wp2_with fail
    exact ⟨_, results_tmp rfl _ _ _, .no (HR.out.trans HE.out) HB1.out rfl⟩
  · have hx : ¬ x < 0 := by have := HNN.out B2 x rfl; omega
    have hbh := hsy.behind
    rw [List.length_append, List.length_singleton] at hbh hal
    have hbox := hsy.box
    rw [List.length_append, List.length_singleton] at hbox
    rcases hbh.2 with ⟨_, e0⟩ | ⟨g, cp, cur, e, hlg, hgh, hcp, _⟩
    · omega
    injection e with e1 e2 e3
    subst e1
    subst e3
    clear e2
    have gx : w1.cell? ⟨g, B2.length, none⟩ = some (.int .i64 x) := by
      have := hbh.cells (g := g) rfl B2.length (.int .i64 x) (by simp)
      rwa [Gn.add_row] at this
    have c0 := cell_of_row _ _ 0 _ _ (0, 0) hbox
    have c1 := cell_of_row _ _ 1 _ _ (0, 0) hbox
    have HE := Lib.hid (stepS_at (left := left) (r := r) hst hx)
    obtain ⟨n2, hn2⟩ : ∃ n2, n2 = B2.length := ⟨_, rfl⟩
    obtain ⟨m, hm⟩ : ∃ m, m = A1.length := ⟨_, rfl⟩
    rw [← hn2] at gx c0 c1 hal hcp
    rw [← hm] at c0 c1 hal
    have HSY := Lib.hid hsy
    have HST := Lib.hid hst
    have HBH := Lib.hid hbh
    have HN := Lib.hid hn2
    have HM := Lib.hid hm
    have HGH := Lib.hid hgh
    clear hsy hst hbh hn2 hm hgh hbox
    have hn2l : n2 ≤ 1099511627776 := by omega
    have hml : m ≤ 1099511627776 := by omega
    clear hal
    have hn20 : (n2 : Int) < (n2 : Int) + 1 := by omega
    by_cases hxl : x = left
    rotate_left
    · go_upto_region 5 with fail
      go_quiet (fail)
      go_wp2_with fail
      exact ⟨_, results_tmp rfl _ _ _, .no (HR.out.trans (HE.out.trans (if_pos hxl))) (Gn.below_drewN HB1.out _) rfl⟩
    subst hxl
    have hxx : (x != x) = false := bne_self_eq_false x
    go_upto_region 5 with fail
    go_quiet (fail)
    have hw1 : IntKind.i64.wrap ((m : Int) + (n2 : Int)) = (m : Int) + (n2 : Int) := IntWalk.i64_in _ (by omega)
    have hw2 : IntKind.i64.wrap ((m : Int) + (n2 : Int) + (rl : Int)) = (m : Int) + (n2 : Int) + (rl : Int) := IntWalk.i64_in _ (by omega)
    have d0 := cell_dn2 c0 nq
    have d1 := cell_dn2 c1 nq
    have dx := cell_dn2 cx nq
    have e0 := cell_dn2 p0 nq
    have e1 := cell_dn2 p1 nq
    generalize hW2 : w1.drewN nq = w2 at *
    by_cases hq : (65536 : Int) < (m : Int) + (n2 : Int) + (rl : Int)
    · go_upto_region 7 with fail
      go_quiet (fail)
      go_wp2_with fail
      exact ⟨_, results_tmp rfl _ _ _, .no (HR.out.trans (HE.out.trans ((if_neg (by simp)).trans (if_pos (by rw [← HN.out, ← HM.out, ← HRL.out]; omega))))) (Gn.below_drewN (by rw [← hW2]; exact Gn.below_drewN HB1.out _) _) rfl⟩
    go_upto_region 7 with fail
    go_quiet (fail)
    go_upto_region 9 with fail
    have d0 := cell_dn2 d0 nq
    have d1 := cell_dn2 d1 nq
    have dx := cell_dn2 dx nq
    have e0 := cell_dn2 e0 nq
    have e1 := cell_dn2 e1 nq
    generalize hW3 : w2.drewN nq = w3 at *
    have hk3 : ∀ k : Nat, w3.heap[k]? = w1.heap[k]? := fun k => by rw [← hW3, ← hW2]; rfl
    have hB3 : Below lo W w3 := by rw [← hW3, ← hW2]; exact Gn.below_drewN (Gn.below_drewN HB1.out _) _
    have HK3 := Lib.hid hk3
    have hcn : n2 ≤ cb := by omega
    have hcn2 : (n2 : Int) ≤ (cb : Int) := by omega
    have HZ3 := Lib.hid (show w3.heap.size = w1.heap.size by rw [← hW3, ← hW2]; rfl)
    have HB3 := Lib.hid hB3
    have HD1 := Lib.hid (Gn.frozen_row ((hk3 b).trans (by have := HSY.out.box; exact this)) 1)
    have hfr1 := HD1.out
    clear hW2 hW3 hk3 hB3 c0 c1 cx p0 p1 hw1 hw2
    refine wp_region_noPanic ?_
    refine wp_region_held_drew (S := (fun W' : World => W'.cell? ⟨bx, 0, none⟩ = some (.pointer (some ⟨b, 0, none⟩)))) (by kernel_rfl) ?_ (fun hHeld => ?_)
    · exact dx
    refine wpAnyH_take (i := 0) (v := ?_) rfl (by kernel_rfl) (by kernel_rfl) (by kernel_rfl) (fun _ _ _ h => h) (Or.inl ⟨by rfl, ?_⟩) (by assumption) ?_
    rotate_left
    · intro w hSw
      try dsimp only at hSw
      go_simp
      try with_reducible rfl
    try simp only [Act.put, List.setIfInBounds_toArray, List.set_cons_zero, List.set_cons_succ]
    refine wpAnyH_take (i := 1) (v := ?_) rfl (by kernel_rfl) (by kernel_rfl) (by kernel_rfl) (fun _ _ _ h => h) (Or.inl ⟨by rfl, ?_⟩) (by assumption) ?_
    rotate_left
    · intro w hSw
      try dsimp only at hSw
      go_simp
      try with_reducible rfl
    try simp only [Act.put, List.setIfInBounds_toArray, List.set_cons_zero, List.set_cons_succ]
    refine wpAnyH_take (i := 2) (v := ?_) rfl (by kernel_rfl) (by kernel_rfl) (by kernel_rfl) (fun _ _ _ h => h) (Or.inl ⟨by rfl, ?_⟩) (by assumption) ?_
    rotate_left
    · intro w hSw
      try dsimp only at hSw
      go_simp
      try with_reducible rfl
    try simp only [Act.put, List.setIfInBounds_toArray, List.set_cons_zero, List.set_cons_succ]
    refine wpAnyH_take (i := 3) (v := ?_) rfl (by kernel_rfl) (by kernel_rfl) (by kernel_rfl) (fun _ _ _ h => h) (Or.inl ⟨by rfl, ?_⟩) (by assumption) ?_
    rotate_left
    · intro w hSw
      try dsimp only at hSw
      go_simp
      try with_reducible rfl
    try simp only [Act.put, List.setIfInBounds_toArray, List.set_cons_zero, List.set_cons_succ]
    refine wpAnyH_take (i := 5) (v := ?_) rfl (by kernel_rfl) (by kernel_rfl) (by kernel_rfl) (fun _ _ _ h => h) (Or.inl ⟨by rfl, ?_⟩) (by assumption) ?_
    rotate_left
    · intro w hSw
      try dsimp only at hSw
      go_simp
      try with_reducible rfl
    try simp only [Act.put, List.setIfInBounds_toArray, List.set_cons_zero, List.set_cons_succ]
    refine wpAnyH_ready (rs := [4]) (by kernel_rfl) (by simp) ?_
    refine AllReadyH.cons rfl (fun K hK => ?_) AllReadyH.nil
    go_simp
    refine hK.out _ _ (hHeld) (fun hHeld => ?_)
    clear hK K
    try simp only [Act.put, List.setIfInBounds_toArray, List.set_cons_zero, List.set_cons_succ]
    refine wpAnyH_ready (rs := [6]) (by kernel_rfl) (by simp) ?_
    refine AllReadyH.cons rfl (fun K hK => ?_) AllReadyH.nil
    go_simp
    refine hK.out _ _ (hHeld) (fun hHeld => ?_)
    clear hK K
    try simp only [Act.put, List.setIfInBounds_toArray, List.set_cons_zero, List.set_cons_succ]
    refine wpAnyH_take (i := 7) (v := ?_) rfl (by kernel_rfl) (by kernel_rfl) (by kernel_rfl) (fun _ _ _ h => h) (Or.inl ⟨by rfl, ?_⟩) (by assumption) ?_
    rotate_left
    · intro w hSw
      try dsimp only at hSw
      go_simp
      try with_reducible rfl
    try simp only [Act.put, List.setIfInBounds_toArray, List.set_cons_zero, List.set_cons_succ]
    refine wpAnyH_take (i := 8) (v := ?_) rfl (by kernel_rfl) (by kernel_rfl) (by kernel_rfl) (fun _ _ _ h => h) (Or.inl ⟨by rfl, ?_⟩) (by assumption) ?_
    rotate_left
    · intro w hSw
      try dsimp only at hSw
      go_simp
      try with_reducible rfl
    try simp only [Act.put, List.setIfInBounds_toArray, List.set_cons_zero, List.set_cons_succ]
    refine wpAnyH_ready (rs := [9]) (by kernel_rfl) (by simp) ?_
    refine AllReadyH.cons rfl (fun K hK => ?_) AllReadyH.nil
    go_simp
    refine hK.out _ _ ((Gn.cell_same (Gn.set_keep _ _ _ (fun e => by have := HBX.out; omega)) 0).trans hHeld) (fun hHeld => ?_)
    clear hK K
    try simp only [Act.put, List.setIfInBounds_toArray, List.set_cons_zero, List.set_cons_succ]
    refine wpAnyH_done (by kernel_rfl) ?_ _
    refine NoPanic.normal ?_
    generalize hW4 : (w3.setCell ⟨b, 1, none⟩ _).drew = w4 at *
    have hsy4 : SyAt lo b A1 B2 (.slice Aa m ca) (.slice (some ⟨g, 0, none⟩) n2 cb) w4 := by
      rw [← hW4, HN.out]
      exact (SyAt.pop (by have := HSY.out; rw [← HM.out] at this; simpa using this) (fun k => HK3.out k)).same (fun k _ => rfl)
    have hk4 : ∀ k, k ≠ b → w4.heap[k]? = w1.heap[k]? := fun k e => by rw [← hW4]; exact (Gn.set_keep _ _ _ (Ne.symm e)).trans (HK3.out k)
    have hz4 : w4.heap.size = w1.heap.size := by
      have e1 : w4.heap.size = w3.heap.size := by rw [← hW4]; simp [World.setCell]
      have e2 : w3.heap.size = w1.heap.size := HZ3.out
      omega
    have hB4 : Below lo W w4 := by rw [← hW4]; exact Gn.below_drew (HB3.out.setCell HSY.out.low _)
    have hxb : bx ≠ b := by rw [HBX.out]; omega
    have hxb1 : bx + 1 ≠ b := by rw [HBX.out]; omega
    have hxx4 := (hk4 bx hxb).trans HXX.out
    have hxp4 := (hk4 (bx + 1) hxb1).trans HXP.out
    have q1 := cell_of_row _ _ 1 _ _ (0, 0) hxp4
    have hVz : V.heap.size ≤ w1.heap.size := HF2.out
    have hxz : bx + 1 < w4.heap.size := Gn.heap_lt hxp4
    have hrr4 : ∀ (i : Nat) (h : i < r.length), w4.cell? ⟨br, i, none⟩ = some (.int .i64 r[i]) := fun i hi => (Gn.cell_same (hk4 br (fun e => by
      have h9 := HR2.out (by rw [HRL.out]; omega)
      have h10 := HSY.out.low
      omega)) i).trans (HRR.out i hi)
    obtain ⟨gb, hg1, hg2, hg3, hg4, hgc⟩ : ∃ gb, (0 < rl → Ar = some ⟨gb, 0, none⟩ ∧ gb = br) ∧ gb ≠ b ∧ gb < w4.heap.size ∧ (∀ k, (Value.slice (some ⟨g, 0, none⟩) n2 cb).ownBlock = some k → k ≠ gb) ∧ ∃ cs t fr, w4.heap[gb]? = some (Obj.cells cs t fr) := by
      by_cases h0 : 0 < rl
      · have h9 := HR2.out h0
        have h10 := HSY.out.low
        have h11 := hrr4 0 (by rw [← HRL.out]; exact h0)
        obtain ⟨cs, t, fr, e⟩ := cells_of_cell h11
        refine ⟨br, fun _ => ⟨h9.1, rfl⟩, by omega, Gn.heap_lt e, fun k e2 e3 => ?_, cs, t, fr, e⟩
        have := (own_base hsy4.behind e2).1
        omega
      · exact ⟨bx, fun h => absurd h h0, hxb, Gn.heap_lt hxx4, fun k e2 e3 => own_type hsy4.behind hxx4 (by decide) (by rw [e2, e3]), _, _, _, hxx4⟩
    have HSY4 := Lib.hid hsy4
    have HK4 := Lib.hid hk4
    have HB4 := Lib.hid hB4
    have HXX4 := Lib.hid hxx4
    have HRR4 := Lib.hid hrr4
    have HG1 := Lib.hid hg1
    have HG2 := Lib.hid hg2
    have HG4 := Lib.hid hg4
    have HZ4 := Lib.hid hz4
    clear hsy4 hk4 hB4 hxx4 hxp4 hrr4 hg1 hg2 hg4 hW4 hz4 hHeld
    have g4 : Fence.wide.fn 75 := trivial
    have g5 : Fence.wide.fn 90 := trivial
    clear d0 d1 dx e0 e1
    go_wp2_with (go_at_call 75; refine (callsIn_wide.1 (back_in Fence.wide n trivial rfl _ _ _ _)).mono ?_; rintro e w' ⟨rfl, rfl⟩)
    refine (wpIn_wide (n := n)).1 ?_
    obtain ⟨f, hf⟩ : ∃ f : Nat → Nm, f = fun j => (((rl - 1 - j : Nat) : Int), r.getD (rl - 1 - j) 0) := ⟨_, rfl⟩
    have hB0 : Below w4.heap.size w4 (w4.alloc (.cells #[.slice Ar rl cr] 22)) := (Below.refl _ w4).alloc (Nat.le_refl _) _
    have cN := heap_alloc_new w4 (.cells #[.slice Ar rl cr] 22)
    have cX := (hB0.block bx (by omega)).trans HXX4.out
    obtain ⟨V5, hV5⟩ : ∃ V5, V5 = w4.alloc (.cells #[.slice Ar rl cr] 22) := ⟨_, rfl⟩
    obtain ⟨G, hGd⟩ : ∃ G : Nat → Prop, G = fun k => k = w4.heap.size ∨ k = gb ∨ (Value.slice Aa m ca).ownBlock = some k := ⟨_, rfl⟩
    have hG1 : G w4.heap.size := by rw [hGd]; exact .inl rfl
    have hG2 : G gb := by rw [hGd]; exact .inr (.inl rfl)
    have HG3 := Lib.hid (show ∀ k, (Value.slice Aa m ca).ownBlock = some k → G k by rw [hGd]; exact fun k h => .inr (.inr h))
    have HGO := Lib.hid (show ∀ k, G k → k = w4.heap.size ∨ k = gb ∨ (Value.slice Aa m ca).ownBlock = some k by intro k h; rw [hGd] at h; exact h)
    clear hGd
    have hlo4 : lo ≤ w4.heap.size := Nat.le_trans hlo HB4.out.size
    have hG0 : Grow lo b bx G (fun v => #[.slice Aa m ca, v]) B2 W V5 (.slice (some ⟨g, 0, none⟩) n2 cb) (w4.alloc (.cells #[.slice Ar rl cr] 22)) := by
      have hh := HSY4.out
      have h8 := HGO.out
      have hbz4 := Gn.heap_lt hh.box
      refine ⟨(hB0.block b hbz4).trans hh.box, own_of_block (by have := hh.behind; exact this) fun g e => hB0.block g (own_base hh.behind e).2, fun g2 e => ⟨fun e2 => hh.offB (by rw [e, e2]), fun e2 => ?_, fun hG => ?_⟩, cX, HB4.out.alloc hlo4 _, ⟨hh.low, hlo⟩, ⟨fun e => hxb e.symm, fun hG => ?_⟩, by rw [hV5]; exact Nat.le_refl _, fun k hG => ?_, fun k _ => by rw [hV5]⟩
      · exact own_type hh.behind HXX4.out (by decide) (by rw [e, e2])
      · have h7 := (own_base hh.behind e).2
        rcases h8 _ hG with e3 | e3 | e3
        · omega
        · exact HG4.out _ e e3
        · exact hh.apart _ e3 e
      · rcases h8 _ hG with e3 | e3 | e3
        · omega
        · exact HG2.out e3.symm
        · exact hh.offA e3
      · rw [hV5]
        rcases h8 _ hG with e3 | e3 | e3
        · rw [e3]; exact ⟨_, _, _, cN⟩
        · rw [e3, hB0.block gb hg3]; exact hgc
        · obtain ⟨cur, e4⟩ := own_cells hh.ahead e3
          exact ⟨_, _, _, (hB0.block k (Gn.heap_lt e4)).trans e4⟩
    apply wpIn_rangeFunc_ownG rfl h1 (gf := 90) (lb := #[.pointer (some ⟨w4.heap.size, 0, none⟩)]) rfl g5 (enters_of Try.func90 (by kernel_rfl) rfl)
      (back_stops Fence.wide (n - 1) g5 rfl (by omega) w4.heap.size gb rl cr Ar f (by omega) _ (fun h0 => ⟨(HG1.out h0).1, by simp; omega⟩) (by simp) (cell_one cN) (fun j hj => by
        have h9 : rl - 1 - j < r.length := by rw [← HRL.out]; omega
        have h10 := HRR4.out _ h9
        rw [(HG1.out (by omega)).2, hB0.cell (p := ⟨br, rl - 1 - j, none⟩) (by rw [← (HG1.out (by omega)).2]; exact hg3), h10, hf]
        simp [List.getD_eq_getElem?_getD, List.getElem?_eq_getElem h9]) (fun j hj => by rw [hf])) (fun h k => h.trans k)
      (fun W l o o' g1 g2 g3 g4 k hk => by
        have hkl : k ≠ l := by simp at g1; omega
        exact World.putObj_heap_other hkl) (Below.refl _ _) (fun _ => rfl)
      (fun pre W' => ∃ v, Grow lo b bx G (fun v => #[.slice Aa m ca, v]) (B2 ++ pre.map Prod.snd) W V5 v W')
      (fun _ _ _ => False)
      (fun s X Y row hs hg hr => by
        obtain ⟨v, hs⟩ := hs
        exact ⟨v, hs.keeps (B := w4.heap.size + 1) (by omega) hg (fun r e => by have := hr r e; simpa using this)⟩)
      (fun _ _ _ _ _ hs _ _ => hs)
      ⟨_, by simpa using hG0⟩
    case hassign =>
      intro l z Y K hK
      gi_wp2
      exact hK
    case hbody =>
      rintro l pre z Y ⟨v, hG⟩ hlt
      obtain ⟨xs, hxs⟩ : ∃ xs, xs = B2 ++ pre.map Prod.snd := ⟨_, rfl⟩
      have hxl : xs.length = n2 + pre.length := by rw [hxs, HN.out]; simp
      rw [← hxs] at hG
      obtain ⟨Ax, cax, rfl⟩ := Gn.slice_of hG.row
      obtain ⟨mx, hmx⟩ : ∃ mx, mx = xs.length := ⟨_, rfl⟩
      have hmxl : mx ≤ 2199023255552 := by omega
      have HGW := Lib.hid hG
      have HMX := Lib.hid hmx
      have HXS := Lib.hid hxs
      have c0 := cell_of_row _ _ 1 _ _ (0, 0) hG.box
      have cx5 := cell_one hG.lead
      rw [← hmx] at c0
      have z0 := cell_al c0
      have hbz5 := Gn.heap_lt hG.box
      have hxz5 := Gn.heap_lt hG.lead
      have HBW := Lib.hid hbz5
      have HXW := Lib.hid hxz5
      clear hG hmx hxs hxl hbz5 hxz5 cX cN hB0 hG0 hf hV5 q1
      gi_wp2
      refine Tame.region_in (fun _ => trivial) (by kernel_rfl) (fun _ _ h => h) (by kernel_rfl) (fun W' : World => W'.cell? ⟨bx, 0, none⟩ = some (.pointer (some ⟨b, 0, none⟩))) ?_ (fun hHeld => ?_)
      · exact cx5
      refine wpAnyH_take (i := 0) (v := ?_) rfl (by kernel_rfl) (by kernel_rfl) (by kernel_rfl) (fun _ _ _ h => h) (Or.inl ⟨by rfl, ?_⟩) (by assumption) ?_
      rotate_left
      · intro w hSw
        try dsimp only at hSw
        go_simp
        try with_reducible rfl
      try simp only [Act.put, List.setIfInBounds_toArray, List.set_cons_zero, List.set_cons_succ]
      refine wpAnyH_take (i := 1) (v := ?_) rfl (by kernel_rfl) (by kernel_rfl) (by kernel_rfl) (fun _ _ _ h => h) (Or.inl ⟨by rfl, ?_⟩) (by assumption) ?_
      rotate_left
      · intro w hSw
        try dsimp only at hSw
        go_simp
        try with_reducible rfl
      try simp only [Act.put, List.setIfInBounds_toArray, List.set_cons_zero, List.set_cons_succ]
      refine wpAnyH_take (i := 2) (v := ?_) rfl (by kernel_rfl) (by kernel_rfl) (by kernel_rfl) (fun _ _ _ h => h) (Or.inl ⟨by rfl, ?_⟩) (by assumption) ?_
      rotate_left
      · intro w hSw
        try dsimp only at hSw
        go_simp
        try with_reducible rfl
      try simp only [Act.put, List.setIfInBounds_toArray, List.set_cons_zero, List.set_cons_succ]
      refine wpAnyH_take (i := 3) (v := ?_) rfl (by kernel_rfl) (by kernel_rfl) (by kernel_rfl) (fun _ _ _ h => h) (Or.inl ⟨by rfl, ?_⟩) (by assumption) ?_
      rotate_left
      · intro w hSw
        try dsimp only at hSw
        go_simp
        try with_reducible rfl
      try simp only [Act.put, List.setIfInBounds_toArray, List.set_cons_zero, List.set_cons_succ]
      refine wpAnyH_take (i := 5) (v := ?_) rfl (by kernel_rfl) (by kernel_rfl) (by kernel_rfl) (fun _ _ _ h => h) (Or.inl ⟨by rfl, ?_⟩) (by assumption) ?_
      rotate_left
      · intro w hSw
        try dsimp only at hSw
        go_simp
        try with_reducible rfl
      try simp only [Act.put, List.setIfInBounds_toArray, List.set_cons_zero, List.set_cons_succ]
      refine wpAnyH_ready (rs := [4, 6]) (by kernel_rfl) (by simp) ?_
      refine AllReadyH.cons rfl (fun K hK => ?_) ?_
      · go_simp
        refine hK.out _ _ (hHeld) (fun hHeld => ?_)
        clear hK K
        try simp only [Act.put, List.setIfInBounds_toArray, List.set_cons_zero, List.set_cons_succ]
        refine wpAnyH_ready (rs := [6]) (by kernel_rfl) (by simp) ?_
        refine AllReadyH.cons rfl (fun K hK => ?_) AllReadyH.nil
        go_simp
        refine hK.out _ _ (cell_al hHeld _) (fun hHeld => ?_)
        clear hK K
        try simp only [Act.put, List.setIfInBounds_toArray, List.set_cons_zero, List.set_cons_succ]
        refine wpAnyH_ready (rs := [7]) (by kernel_rfl) (by simp) ?_
        refine AllReadyH.cons rfl (fun K hK => ?_) AllReadyH.nil
        refine step_append_lies _ rfl (.tmp 61) (.tmp 63) 22 rfl lo 3 i0 (.int .i64 0) 1 8 Try.underlying22 hi0 hz0 hz1 hz2 rfl (by decide) (.slice Ax mx cax) mx (xs.map (Value.int .i64)) (by simp [Act.eval]) (by rw [HMX.out]; exact HGW.out.row.drew.alloc _) ⟨Y.heap.size, 0, none⟩ 1 1 [.int .i64 z.2] (by simp [Act.eval]) rfl (Gn.row_new _ [.int .i64 z.2] _ _ rfl) (by simp [Value.oneCell']) (by decide) (by unfold maxLen; omega) (by omega) (by have := HGW.out.low; have := HGW.out.below.size; simp; omega) _ rfl ?_
        intro gq cap4 w6 hown4 hgrow4 hat4 hlt4
        have HO4 := Lib.hid hown4
        have HGR4 := Lib.hid hgrow4
        have HA4 := Lib.hid hat4
        have hx4 := (hgrow4.block b (by have := HBW.out; simp; omega) (fun e => (HGW.out.off b (by rw [← HMX.out]; exact e.symm)).1 rfl)).trans ((heap_alloc_old Y.drew _ HBW.out).trans HGW.out.box)
        have hl4 : w6.cell? ⟨bx, 0, none⟩ = some (.pointer (some ⟨b, 0, none⟩)) := (Gn.cell_same ((hgrow4.block bx (by have := HXW.out; simp; omega) (fun e => (HGW.out.off _ (by rw [← HMX.out]; exact e.symm)).2.1 rfl)).trans (heap_alloc_old Y.drew _ HXW.out)) 0).trans cx5
        have c4 := cell_of_row _ _ 1 _ _ (0, 0) hx4
        have f9 := Gn.frozen_row hx4 1
        clear hx4 hown4 hgrow4 hat4 hlt4
        refine hK.out _ _ (hl4) (fun hHeld => ?_)
        clear hK K
        try simp only [Act.put, List.setIfInBounds_toArray, List.set_cons_zero, List.set_cons_succ]
        refine wpAnyH_take (i := 8) (v := ?_) rfl (by kernel_rfl) (by kernel_rfl) (by kernel_rfl) (fun _ _ _ h => h) (Or.inl ⟨by rfl, ?_⟩) (by assumption) ?_
        rotate_left
        · intro w hSw
          try dsimp only at hSw
          go_simp
          try with_reducible rfl
        try simp only [Act.put, List.setIfInBounds_toArray, List.set_cons_zero, List.set_cons_succ]
        refine wpAnyH_take (i := 9) (v := ?_) rfl (by kernel_rfl) (by kernel_rfl) (by kernel_rfl) (fun _ _ _ h => h) (Or.inl ⟨by rfl, ?_⟩) (by assumption) ?_
        rotate_left
        · intro w hSw
          try dsimp only at hSw
          go_simp
          try with_reducible rfl
        try simp only [Act.put, List.setIfInBounds_toArray, List.set_cons_zero, List.set_cons_succ]
        refine wpAnyH_ready (rs := [10]) (by kernel_rfl) (by simp) ?_
        refine AllReadyH.cons rfl (fun K hK => ?_) AllReadyH.nil
        go_simp
        refine hK.out _ _ ((Gn.cell_same (Gn.set_keep _ _ _ (fun e => hxb e.symm)) 0).trans hHeld) (fun hHeld => ?_)
        clear hK K
        try simp only [Act.put, List.setIfInBounds_toArray, List.set_cons_zero, List.set_cons_succ]
        refine wpAnyH_done (by kernel_rfl) ?_ _
        refine NoPanic.normal ?_
        have hmv := Grow.moved (B := w4.heap.size + 1) (i := 1) (x := z.2) (by have := HGW.out; rw [← HMX.out] at this; exact this) (fun _ _ => rfl) (by have := HO4.out; rw [HMX.out] at this; exact this) (by have := HGR4.out; exact this) (by have := HA4.out; exact this.imp id (fun e => by rw [e]; show Y.heap.size ≤ (Y.alloc _).heap.size; simp))
        rw [← HMX.out, HXS.out] at hmv
        refine ⟨?_, fun k hk => hmv.2.1 k (by rcases hk with rfl | rfl; exact hG2; exact hG1), .slice (some ⟨gq, 0, none⟩) (mx + 1) cap4, ?_⟩
        · simpa using hmv.1
        · have h9 := hmv.2.2
          rw [List.append_assoc] at h9
          rw [List.map_append]
          exact h9
      refine AllReadyH.cons rfl (fun K hK => ?_) AllReadyH.nil
      · go_simp
        refine hK.out _ _ (cell_al hHeld _) (fun hHeld => ?_)
        clear hK K
        try simp only [Act.put, List.setIfInBounds_toArray, List.set_cons_zero, List.set_cons_succ]
        refine wpAnyH_ready (rs := [4]) (by kernel_rfl) (by simp) ?_
        refine AllReadyH.cons rfl (fun K hK => ?_) AllReadyH.nil
        go_simp
        refine hK.out _ _ (hHeld) (fun hHeld => ?_)
        clear hK K
        try simp only [Act.put, List.setIfInBounds_toArray, List.set_cons_zero, List.set_cons_succ]
        refine wpAnyH_ready (rs := [7]) (by kernel_rfl) (by simp) ?_
        refine AllReadyH.cons rfl (fun K hK => ?_) AllReadyH.nil
        refine step_append_lies _ rfl (.tmp 61) (.tmp 63) 22 rfl lo 3 i0 (.int .i64 0) 1 8 Try.underlying22 hi0 hz0 hz1 hz2 rfl (by decide) (.slice Ax mx cax) mx (xs.map (Value.int .i64)) (by simp [Act.eval]) (by rw [HMX.out]; exact HGW.out.row.drew.alloc _) ⟨Y.heap.size, 0, none⟩ 1 1 [.int .i64 z.2] (by simp [Act.eval]) rfl (Gn.row_new _ [.int .i64 z.2] _ _ rfl) (by simp [Value.oneCell']) (by decide) (by unfold maxLen; omega) (by omega) (by have := HGW.out.low; have := HGW.out.below.size; simp; omega) _ rfl ?_
        intro gq cap4 w6 hown4 hgrow4 hat4 hlt4
        have HO4 := Lib.hid hown4
        have HGR4 := Lib.hid hgrow4
        have HA4 := Lib.hid hat4
        have hx4 := (hgrow4.block b (by have := HBW.out; simp; omega) (fun e => (HGW.out.off b (by rw [← HMX.out]; exact e.symm)).1 rfl)).trans ((heap_alloc_old Y.drew _ HBW.out).trans HGW.out.box)
        have hl4 : w6.cell? ⟨bx, 0, none⟩ = some (.pointer (some ⟨b, 0, none⟩)) := (Gn.cell_same ((hgrow4.block bx (by have := HXW.out; simp; omega) (fun e => (HGW.out.off _ (by rw [← HMX.out]; exact e.symm)).2.1 rfl)).trans (heap_alloc_old Y.drew _ HXW.out)) 0).trans cx5
        have c4 := cell_of_row _ _ 1 _ _ (0, 0) hx4
        have f9 := Gn.frozen_row hx4 1
        clear hx4 hown4 hgrow4 hat4 hlt4
        refine hK.out _ _ (hl4) (fun hHeld => ?_)
        clear hK K
        try simp only [Act.put, List.setIfInBounds_toArray, List.set_cons_zero, List.set_cons_succ]
        refine wpAnyH_take (i := 8) (v := ?_) rfl (by kernel_rfl) (by kernel_rfl) (by kernel_rfl) (fun _ _ _ h => h) (Or.inl ⟨by rfl, ?_⟩) (by assumption) ?_
        rotate_left
        · intro w hSw
          try dsimp only at hSw
          go_simp
          try with_reducible rfl
        try simp only [Act.put, List.setIfInBounds_toArray, List.set_cons_zero, List.set_cons_succ]
        refine wpAnyH_take (i := 9) (v := ?_) rfl (by kernel_rfl) (by kernel_rfl) (by kernel_rfl) (fun _ _ _ h => h) (Or.inl ⟨by rfl, ?_⟩) (by assumption) ?_
        rotate_left
        · intro w hSw
          try dsimp only at hSw
          go_simp
          try with_reducible rfl
        try simp only [Act.put, List.setIfInBounds_toArray, List.set_cons_zero, List.set_cons_succ]
        refine wpAnyH_ready (rs := [10]) (by kernel_rfl) (by simp) ?_
        refine AllReadyH.cons rfl (fun K hK => ?_) AllReadyH.nil
        go_simp
        refine hK.out _ _ ((Gn.cell_same (Gn.set_keep _ _ _ (fun e => hxb e.symm)) 0).trans hHeld) (fun hHeld => ?_)
        clear hK K
        try simp only [Act.put, List.setIfInBounds_toArray, List.set_cons_zero, List.set_cons_succ]
        refine wpAnyH_done (by kernel_rfl) ?_ _
        refine NoPanic.normal ?_
        have hmv := Grow.moved (B := w4.heap.size + 1) (i := 1) (x := z.2) (by have := HGW.out; rw [← HMX.out] at this; exact this) (fun _ _ => rfl) (by have := HO4.out; rw [HMX.out] at this; exact this) (by have := HGR4.out; exact this) (by have := HA4.out; exact this.imp id (fun e => by rw [e]; show Y.heap.size ≤ (Y.alloc _).heap.size; simp))
        rw [← HMX.out, HXS.out] at hmv
        refine ⟨?_, fun k hk => hmv.2.1 k (by rcases hk with rfl | rfl; exact hG2; exact hG1), .slice (some ⟨gq, 0, none⟩) (mx + 1) cap4, ?_⟩
        · simpa using hmv.1
        · have h9 := hmv.2.2
          rw [List.append_assoc] at h9
          rw [List.map_append]
          exact h9
    case hdone =>
      rintro D ys Y hD rfl ⟨v, hG⟩ hK
      have hG9 := hG.keeps (W' := Y.putObj D (.deferred none)) (B := w4.heap.size + 1) (by omega) (grownBy_putObj' _ D _) (fun r e => by cases e; exact ⟨by simpa using hD, _, hK, rfl⟩)
      have HG9 := Lib.hid hG9
      have HF := Lib.hid hf
      have HV5 := Lib.hid hV5
      have HBB := Lib.hid hB0
      have HH := Lib.hid hG1
      clear hG hG9 cX cN hB0 hG0 hf hV5 q1 hG1 hG2
      go_wp2_with fail
      refine ⟨by simp, .inl ⟨_, _, rfl, run_takeDeferred hK, ?_⟩⟩
      refine ⟨_, results_tmp rfl _ _ _, ?_⟩
      have e1 : (upto f rl).map Prod.snd = r.reverse := by
        rw [HF.out, HRL.out]
        apply List.ext_getElem
        · simp [upto]
        · intro i h3 h4
          have h5 : i < r.length := by simpa using h4
          simp [upto, List.getElem_reverse, List.getD_eq_getElem?_getD, List.getElem?_eq_getElem (show r.length - 1 - i < r.length by omega)]
      have h9 := HG9.out
      rw [e1] at h9
      have hR2 : R = .ok (A1 ++ r ++ B2.reverse) := HR.out.trans (HE.out.trans ((if_neg (by simp)).trans (if_neg (by rw [← HN.out, ← HM.out, ← HRL.out]; omega))))
      rw [hR2]
      have hsame : ∀ k, (Value.slice Aa m ca).ownBlock = some k → (Y.putObj D (.deferred none)).heap[k]? = w4.heap[k]? := fun k e => (h9.same k (HG3.out k e)).trans (by rw [HV5.out]; exact HBB.out.block k (own_base HSY4.out.ahead e).2)
      exact ⟨h9.below, rfl, A1, B2 ++ r.reverse, .slice Aa m ca, v, ⟨h9.box, own_of_block HSY4.out.ahead hsame, h9.row, fun k e e2 => (h9.off k e2).2.2 (HG3.out k e), HSY4.out.offA, fun e => (h9.off b e).1 rfl, h9.low.1⟩, Stand.put HST.out.neg⟩
    case hstop =>
      rintro D c pre Y _ _ h _
      exact h.elim
theorem use_any (lo b : Nat) (now : List Int) (hnow : now.length ≤ 1099511627776) (A B : List Int) (va vb : Value) (W : World) (h : SyAt lo b A B va vb W) (hs : Stand A B now) (left : Int) (r : List Int) (hr : r.length ≤ 1099511627776) (vr : Value) (hri : IntsAt (fun k => k < lo) W r vr) (hlo : lo ≤ W.heap.size) :
    Calls Try.prog 51 #[.pointer (some ⟨b, 0, none⟩), .agg #[.int .i64 left, vr]] W fun e w' => Used lo b (stepS now left r) W e w' :=
  (callsIn_wide (n := 3)).1 (use_in 3 (Nat.le_refl _) lo b now hnow A B va vb W h hs left r hr vr hri hlo)
end Go.Proofs.Ytjlppffkacimoaa.Tr
