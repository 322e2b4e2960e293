/-
  Layer 18: the law's told and same.
  Layer 18: the law's same, of a roll that both have.
-/
import Derived.Test.YtnmhgjoofgmcgaaGreatRlRp
import Derived.Test.YtnmhgjoofgmcgaaGreatRlClone
import Derived.Test.YtnmhgjoofgmcgaaGreatRlFind
import Derived.Deep.RegionHeld3

namespace Go.Proofs.YtnmhgjoofgmcgaaGreat.Rl
open Go.RowKit
open Fx (StrsAt)
open Oct (pb bs)
set_option maxRecDepth 100000
set_option linter.unusedSimpArgs false
set_option linter.unusedVariables false
theorem DM_info : (Tryz.prog.info? 48).map (fun i => (i.zero, i.size, i.bytes)) = some (some (.agg #[.string ⟨#[]⟩, .int .i64 0, .int .i64 0]), 3, 32) := by kernel_rfl
theorem DC_info : (Tryz.prog.info? 57).map (fun i => (i.zero, i.size, i.bytes)) = some (some (.agg #[.string ⟨#[]⟩, .string ⟨#[]⟩, .slice none 0 0]), 3, 56) := by kernel_rfl
/-- Between told's steps. -/
structure TdA (ms : List Mem) (raws : List CRaw) (V w : World) (k1 k2 : Nat) (vm vc : Value) : Prop where
  bel : Below V.heap.size V w
  box : w.heap[V.heap.size]? = some (.cells #[vm, vc] 31 (0, 0))
  rm : w.ownsRow (V.heap.size + 1) 48 3 vm k1 (cellsOf encM (ms.take k1))
  rc : w.ownsRow (V.heap.size + 1) 57 3 vc k2 (cellsOf encC (raws.take k2))
section
variable {ms : List Mem} {raws : List CRaw} {V w w' : World} {k1 k2 : Nat} {vm vc : Value}
theorem TdA.under (h : TdA ms raws V w k1 k2 vm vc) (b : Below w.heap.size w w') : TdA ms raws V w' k1 k2 vm vc :=
  ⟨h.bel.trans (b.mono h.bel.size), (b.block _ (Gn.heap_lt h.box)).trans h.box, own_keep h.rm fun q hq => b.block q (Gn.own_lt h.rm q hq), own_keep h.rc fun q hq => b.block q (Gn.own_lt h.rc q hq)⟩
theorem TdA.grown (h : TdA ms raws V w k1 k2 vm vc) {T : TypeId} {s n : Nat} {v : Value} {xs : List Value} (ho : w.ownsRow (V.heap.size + 1) T s v n xs) (hg : w.grownBy w' v.ownBlock) : Below V.heap.size V w' ∧ w'.heap[V.heap.size]? = some (.cells #[vm, vc] 31 (0, 0)) := by
  have hlt := Gn.heap_lt h.box
  have hk : ∀ q, q < V.heap.size + 1 → w'.heap[q]? = w.heap[q]? := fun q hq => hg.block q (by omega) (fun e => by have := Gn.own_block ho q e.symm; omega)
  exact ⟨⟨hg.os.trans h.bel.os, hg.tape.trans h.bel.tape, hg.output.trans h.bel.output, Nat.le_trans h.bel.size hg.size, fun q hq => (hk q (by omega)).trans (h.bel.block q hq)⟩, (hk _ (by omega)).trans h.box⟩
theorem set_far {w : World} {q i : Nat} {x : Value} (r : Nat) (hr : r ≠ q) : (w.setCell ⟨q, i, none⟩ x).heap[r]? = w.heap[r]? := Gn.set_keep _ _ _ (fun e => hr e.symm)
theorem cells_snoc {α : Type} (enc : α → List Value) (l : List α) (k : Nat) (h : k < l.length) : cellsOf enc (l.take (k + 1)) = cellsOf enc (l.take k) ++ enc l[k] := by
  rw [List.take_succ_eq_append_getElem h, cellsOf_app]
  simp [cellsOf]
theorem TdA.snocM (h : TdA ms raws V w k1 k2 vm vc) (hk : k1 < ms.length) {v' : Value} (ho : w'.ownsRow (V.heap.size + 1) 48 3 v' (k1 + 1) (cellsOf encM (ms.take k1) ++ encM ms[k1])) (hg : w.grownBy w' vm.ownBlock) : TdA ms raws V (w'.setCell ⟨V.heap.size, 0, none⟩ v') (k1 + 1) k2 v' vc := by
  obtain ⟨h1, h2⟩ := h.grown h.rm hg
  have hc := own_far h.rm h.rc (by decide) hg
  refine ⟨h1.setCell (Nat.le_refl _) _, Gn.heap_set h2 0 _, ?_, own_keep hc fun q hq => set_far q (by have := Gn.own_block hc q hq; omega)⟩
  rw [cells_snoc _ _ _ hk]
  exact own_keep ho fun q hq => set_far q (by have := Gn.own_block ho q hq; omega)
theorem TdA.snocC (h : TdA ms raws V w k1 k2 vm vc) (hk : k2 < raws.length) {v' : Value} (ho : w'.ownsRow (V.heap.size + 1) 57 3 v' (k2 + 1) (cellsOf encC (raws.take k2) ++ encC raws[k2])) (hg : w.grownBy w' vc.ownBlock) : TdA ms raws V (w'.setCell ⟨V.heap.size, 1, none⟩ v') k1 (k2 + 1) vm v' := by
  obtain ⟨h1, h2⟩ := h.grown h.rc hg
  have hc := own_far h.rc h.rm (by decide) hg
  refine ⟨h1.setCell (Nat.le_refl _) _, Gn.heap_set h2 1 _, own_keep hc fun q hq => set_far q (by have := Gn.own_block hc q hq; omega), ?_⟩
  rw [cells_snoc _ _ _ hk]
  exact own_keep ho fun q hq => set_far q (by have := Gn.own_block ho q hq; omega)
end
/-- A roll is told; nothing that was there is turned. -/
def ToldR (W : World) (r : Rol) (e : Ending) (w' : World) : Prop := ∃ v', e = .returned v' ∧ RlAt (fun _ => True) w' r v' ∧ Below W.heap.size W w'
theorem results_cell_agg {P : Program} {fn : Func} {q : Tmp} {uy : TypeId} (h : fn.results = #[.cell q uy]) (tmps : Array Value) (w : World) (k : Nat) (u : TypeId) (ds : Array Value) (fs : Nat × Nat) (e : TypeDesc)
    (hq : tmps.getD q undef = .pointer (some ⟨k, 0, none⟩)) (hk : w.heap[k]? = some (.cells ds u fs)) (hv : P.underlying uy = some e) (he : (match e with | .struct _ | .array _ _ => true | _ => false) = true) (hj : (P.info? uy).map (·.size) = some ds.size) :
    (results fn tmps).run P w = .ok (.agg ds) w := by
  have hq' : tmps[q]?.getD undef = .pointer (some ⟨k, 0, none⟩) := by simpa using hq
  simp [results, h, hq', asAddr, run_loadVar_row w k u uy ds fs e hk hv he hj]
set_option maxHeartbeats 8000000 in
theorem told_any (r : Rol) (hn : r.ms.length ≤ 4096) (hm : r.cs.length ≤ 4096) (P : Nat → Prop) (W : World) (v : Value) (h : RlAt P W r v) :
    Calls Tryz.prog 33 #[v] W (ToldR W r) := by
  obtain ⟨i0, hi0, hz0, hz1, hz2⟩ := info_parts DM_info
  obtain ⟨i1, hi1, hy0, hy1, hy2⟩ := info_parts DC_info
  obtain ⟨Am, cm, Ac, cc, rfl, hms, hcs⟩ := h.form
  obtain ⟨raws, hrow, hall⟩ := hcs
  have hrl : raws.length = r.cs.length := hall.1
  obtain ⟨n, hnn⟩ : ∃ n, n = r.ms.length := ⟨_, rfl⟩
  obtain ⟨m, hmm⟩ : ∃ m, m = r.cs.length := ⟨_, rfl⟩
  rw [← hnn] at hms hn ⊢
  rw [← hmm] at hrow hm hrl ⊢
  obtain ⟨V, hV⟩ : ∃ V, V = (W.alloc (.cells #[.slice Am n cm, .slice Ac m cc] 27)).alloc (.cells #[.slice none 0 0, .slice none 0 0] 31) := ⟨_, rfl⟩
  obtain ⟨V1, hV1⟩ : ∃ V1, V1 = V.alloc (.cells #[.slice none 0 0, .slice none 0 0] 31) := ⟨_, rfl⟩
  have hb : Below W.heap.size W V := by rw [hV]; exact ((Below.refl _ W).alloc (Nat.le_refl _) _).alloc (by simp) _
  have hzV : V.heap.size = W.heap.size + 1 + 1 := by rw [hV]; simp
  have hx : V.heap[W.heap.size]? = some (.cells #[.slice Am n cm, .slice Ac m cc] 27 (0, 0)) := by rw [hV]; exact (heap_alloc_old _ _ (by simp)).trans (heap_alloc_new W _)
  have hxr : V.heap[W.heap.size + 1]? = some (.cells #[.slice none 0 0, .slice none 0 0] 31 (0, 0)) := by
    rw [hV]; have := heap_alloc_new (W.alloc (.cells #[.slice Am n cm, .slice Ac m cc] 27)) (.cells #[.slice none 0 0, .slice none 0 0] 31); simpa using this
  have HKP := Lib.hid (show TdA r.ms raws V V1 0 0 (.slice none 0 0) (.slice none 0 0) by
    rw [hV1]
    exact ⟨(Below.refl _ V).alloc (Nat.le_refl _) _, heap_alloc_new V _, World.ownsRow_nil _ _ _ _, World.ownsRow_nil _ _ _ _⟩)
  have HMS := Lib.hid (RowAt.under hms hb)
  have HRO := Lib.hid (RowAt.under hrow hb)
  have HAL := Lib.hid hall
  have HX := Lib.hid hx
  have HXR := Lib.hid hxr
  have HV := Lib.hid hV
  have HV1 := Lib.hid hV1
  have HB := Lib.hid hb
  have HNN := Lib.hid hnn
  have HMM := Lib.hid hmm
  have HRL := Lib.hid hrl
  have HZV := Lib.hid hzV
  clear h hms hrow hall hrl hb hx hV hV1 hnn hmm hzV hxr
  go_enter Tryz.func33, Tryz.ntmps33
  go_upto_region 2 with fail
  rw [← HV.out, ← HV1.out]
  go_wp2_with fail
  go_loopw [4] (fun x wr => ∃ (k : Nat) (vm : Value), k ≤ n ∧ x = .int .i64 k ∧ TdA r.ms raws V wr k 0 vm (.slice none 0 0)) (fun x _ => n - (intOf x).toNat)
  case atStart => exact ⟨0, _, Nat.zero_le _, rfl, HKP.out⟩
  case round =>
    obtain ⟨k, vm, hk, rfl, hkp⟩ := hrel
    have HK := Lib.hid hkp
    have hxk := (hkp.bel.block _ (by rw [HZV.out]; omega)).trans HX.out
    have x0 := cell_of_row _ _ 0 _ _ (0, 0) hxk
    have x1 := cell_of_row _ _ 1 _ _ (0, 0) hxk
    clear hkp
    by_cases hlt : k < n
    · have hlt2 : (k : Int) < (n : Int) := by omega
      have hkl : k < r.ms.length := by rw [← HNN.out]; exact hlt
      obtain ⟨A1, c1, rfl⟩ := Gn.slice_of HK.out.rm
      obtain ⟨A5, c5, b5, h5, _, _, h5c, h5d⟩ := HMS.out
      rw [← HNN.out] at h5 h5c
      injection h5 with h5 _ h5k
      subst h5
      subst h5k
      obtain ⟨rfl, hb5, _⟩ := h5c (by omega)
      obtain ⟨x, hx⟩ : ∃ x, x = r.ms[k] := ⟨_, rfl⟩
      have k0 := h5d k hkl 0 _ rfl
      have k1 := h5d k hkl 1 _ rfl
      have k2 := h5d k hkl 2 _ rfl
      rw [← hx] at k0 k1 k2
      rw [Nat.add_zero] at k0
      obtain ⟨nm, ro, qu⟩ := x
      dsimp only at k0 k1 k2
      have HX5 := Lib.hid hx.symm
      have HSQ := Lib.hid (fun (w' : World) (b : Below V.heap.size V w') => show (fun w' : World => w'.cell? ⟨W.heap.size, 0, none⟩ = some (.slice (some ⟨b5, 0, none⟩) n cm) ∧ w'.cell? ⟨b5, k * 3, none⟩ = some (.string nm) ∧ w'.cell? ⟨b5, k * 3 + 1, none⟩ = some (.int .i64 ro) ∧ w'.cell? ⟨b5, k * 3 + 2, none⟩ = some (.int .i64 qu)) w' from ⟨cell_of_row _ _ 0 _ _ (0, 0) ((b.block _ (by rw [HZV.out]; omega)).trans HX.out), (b.cell (p := ⟨b5, k * 3, none⟩) hb5).trans k0, (b.cell (p := ⟨b5, k * 3 + 1, none⟩) hb5).trans k1, (b.cell (p := ⟨b5, k * 3 + 2, none⟩) hb5).trans k2⟩)
      have HK0 := Lib.hid (HK.out.under (Gn.below_drew (Below.refl _ _)))
      have HK1 := Lib.hid (HK0.out.under ((Below.refl _ _).alloc (Nat.le_refl _) (.cells #[.string nm, .int .i64 ro, .int .i64 qu] 48)))
      have hw1 : IntKind.i64.wrap ((k : Int) + 1) = ((k + 1 : Nat) : Int) := IntWalk.i64_in _ (by omega)
      clear k0 k1 k2 hx h5d hb5 h5c hxk
      go_upto_region 5 with fail
      clear x0 x1
      refine wp_region_noPanic ?_
      refine wp_region_held_drew (S := (fun w' : World => w'.cell? ⟨W.heap.size, 0, none⟩ = some (.slice (some ⟨b5, 0, none⟩) n cm) ∧ w'.cell? ⟨b5, k * 3, none⟩ = some (.string nm) ∧ w'.cell? ⟨b5, k * 3 + 1, none⟩ = some (.int .i64 ro) ∧ w'.cell? ⟨b5, k * 3 + 2, none⟩ = some (.int .i64 qu))) (by kernel_rfl) ?_ (fun hHeld => ?_)
      · exact HSQ.out _ (Gn.below_drew HK.out.bel)
      refine wpAnyH_take (i := 0) (v := ?_) rfl (by kernel_rfl) (by kernel_rfl) (by kernel_rfl) (fun _ _ _ h => h) (Or.inl ⟨by rfl, ?_⟩) (by assumption) ?_
      rotate_left
      · intro w hSw
        try dsimp only at hSw
        go_simp
        try with_reducible rfl
      try simp only [Act.put, List.setIfInBounds_toArray, List.set_cons_zero, List.set_cons_succ]
      refine wpAnyH_take (i := 2) (v := ?_) rfl (by kernel_rfl) (by kernel_rfl) (by kernel_rfl) (fun _ _ _ h => h) (Or.inl ⟨by rfl, ?_⟩) (by assumption) ?_
      rotate_left
      · intro w hSw
        try dsimp only at hSw
        go_simp
        try with_reducible rfl
      try simp only [Act.put, List.setIfInBounds_toArray, List.set_cons_zero, List.set_cons_succ]
      refine wpAnyH_take (i := 3) (v := ?_) rfl (by kernel_rfl) (by kernel_rfl) (by kernel_rfl) (fun _ _ _ h => h) (Or.inl ⟨by rfl, ?_⟩) (by assumption) ?_
      rotate_left
      · intro w hSw
        try dsimp only at hSw
        go_simp
        try with_reducible rfl
      try simp only [Act.put, List.setIfInBounds_toArray, List.set_cons_zero, List.set_cons_succ]
      refine wpAnyH_take (i := 4) (v := ?_) rfl (by kernel_rfl) (by kernel_rfl) (by kernel_rfl) (fun _ _ _ h => h) (Or.inl ⟨by rfl, ?_⟩) (by assumption) ?_
      rotate_left
      · intro w hSw
        try dsimp only at hSw
        go_simp
        try with_reducible rfl
      try simp only [Act.put, List.setIfInBounds_toArray, List.set_cons_zero, List.set_cons_succ]
      refine wpAnyH_take (i := 5) (v := ?_) rfl (by kernel_rfl) (by kernel_rfl) (by kernel_rfl) (fun _ _ _ h => h) (Or.inl ⟨by rfl, ?_⟩) (by assumption) ?_
      rotate_left
      · intro w hSw
        try dsimp only at hSw
        go_simp
        try with_reducible rfl
      try simp only [Act.put, List.setIfInBounds_toArray, List.set_cons_zero, List.set_cons_succ]
      refine wpAnyH_take (i := 6) (v := ?_) rfl (by kernel_rfl) (by kernel_rfl) (by kernel_rfl) (fun _ _ _ h => h) (Or.inl ⟨by rfl, ?_⟩) (by assumption) ?_
      rotate_left
      · intro w hSw
        try dsimp only at hSw
        go_simp
        try with_reducible rfl
      try simp only [Act.put, List.setIfInBounds_toArray, List.set_cons_zero, List.set_cons_succ]
      refine wpAnyH_ready (rs := [1, 7]) (by kernel_rfl) (by simp) ?_
      refine AllReadyH.cons rfl (fun K hK => ?_) ?_
      · have bx := cell_of_row _ _ 0 _ _ (0, 0) HK0.out.box
        rw [HZV.out] at bx
        go_simp
        refine hK.out _ _ (HSQ.out _ HK0.out.bel) (fun hHeld => ?_)
        clear hK K
        try simp only [Act.put, List.setIfInBounds_toArray, List.set_cons_zero, List.set_cons_succ]
        refine wpAnyH_ready (rs := [7]) (by kernel_rfl) (by simp) ?_
        refine AllReadyH.cons rfl (fun K hK => ?_) AllReadyH.nil
        go_simp
        refine hK.out _ _ (HSQ.out _ HK1.out.bel) (fun hHeld => ?_)
        clear hK K
        try simp only [Act.put, List.setIfInBounds_toArray, List.set_cons_zero, List.set_cons_succ]
        refine wpAnyH_ready (rs := [8]) (by kernel_rfl) (by simp) ?_
        refine AllReadyH.cons rfl (fun K hK => ?_) AllReadyH.nil
        refine step_append3 _ (by rfl) (.tmp 14) (.tmp 20) 28 48 (by rfl) i0 _ 32 Tryz.underlying28 hi0 hz0 hz1 hz2 rfl (V.heap.size + 1) (.slice A1 k c1) k (cellsOf encM (r.ms.take k)) (by simp [Act.eval]) HK1.out.rm ⟨wr.heap.size, 0, none⟩ 1 (by simp [Act.eval]) (encM ⟨nm, ro, qu⟩) rfl (Gn.row_new wr.drew (encM ⟨nm, ro, qu⟩) 48 wr.heap.size rfl) (encM_one _) (by unfold maxLen; omega) (by omega) (by simp; have := Gn.heap_lt HK0.out.box; simp at this; omega) ?_
        intro v9 w9 ho9 hg9
        have h9 := HK1.out.snocM hkl (by rw [HX5.out]; exact ho9) hg9
        rw [HZV.out] at h9
        have HG9 := Lib.hid h9
        have HB9 := Lib.hid (HK1.out.grown HK1.out.rm hg9)
        obtain ⟨A9, c9, rfl⟩ := Gn.slice_of ho9
        have b0 := cell_of_row _ _ 0 _ _ (0, 0) HB9.out.2
        have f0 := Gn.frozen_row HB9.out.2 0
        rw [HZV.out] at b0 f0
        clear ho9 hg9 h9
        refine hK.out _ _ (HSQ.out _ HB9.out.1) (fun hHeld => ?_)
        clear hK K
        try simp only [Act.put, List.setIfInBounds_toArray, List.set_cons_zero, List.set_cons_succ]
        refine wpAnyH_take (i := 9) (v := ?_) rfl (by kernel_rfl) (by kernel_rfl) (by kernel_rfl) (fun _ _ _ h => h) (Or.inl ⟨by rfl, ?_⟩) (by assumption) ?_
        rotate_left
        · intro w hSw
          try dsimp only at hSw
          go_simp
          try with_reducible rfl
        try simp only [Act.put, List.setIfInBounds_toArray, List.set_cons_zero, List.set_cons_succ]
        refine wpAnyH_ready (rs := [10]) (by kernel_rfl) (by simp) ?_
        refine AllReadyH.cons rfl (fun K hK => ?_) AllReadyH.nil
        go_simp
        refine hK.out _ _ (HSQ.out _ HG9.out.bel) (fun hHeld => ?_)
        clear hK K
        try simp only [Act.put, List.setIfInBounds_toArray, List.set_cons_zero, List.set_cons_succ]
        refine wpAnyH_done (by kernel_rfl) ?_ _
        refine NoPanic.normal ?_
        go_wp2_with fail
        go_roundw
        case rel => exact ⟨k + 1, _, by omega, by go_num, HG9.out⟩
        case measure => simp [intOf]; omega
      refine AllReadyH.cons rfl (fun K hK => ?_) AllReadyH.nil
      · go_simp
        refine hK.out _ _ (HSQ.out _ HK1.out.bel) (fun hHeld => ?_)
        clear hK K
        try simp only [Act.put, List.setIfInBounds_toArray, List.set_cons_zero, List.set_cons_succ]
        refine wpAnyH_ready (rs := [1]) (by kernel_rfl) (by simp) ?_
        refine AllReadyH.cons rfl (fun K hK => ?_) AllReadyH.nil
        have bx := cell_of_row _ _ 0 _ _ (0, 0) HK1.out.box
        rw [HZV.out] at bx
        have bx2 : (wr.alloc (.cells #[.string nm, .int .i64 ro, .int .i64 qu] 48)).cell? ⟨W.heap.size + 1 + 1, 0, none⟩ = some _ := bx
        go_simp
        refine hK.out _ _ (HSQ.out _ HK1.out.bel) (fun hHeld => ?_)
        clear hK K
        try simp only [Act.put, List.setIfInBounds_toArray, List.set_cons_zero, List.set_cons_succ]
        refine wpAnyH_ready (rs := [8]) (by kernel_rfl) (by simp) ?_
        refine AllReadyH.cons rfl (fun K hK => ?_) AllReadyH.nil
        refine step_append3 _ (by rfl) (.tmp 14) (.tmp 20) 28 48 (by rfl) i0 _ 32 Tryz.underlying28 hi0 hz0 hz1 hz2 rfl (V.heap.size + 1) (.slice A1 k c1) k (cellsOf encM (r.ms.take k)) (by simp [Act.eval]) HK1.out.rm ⟨wr.heap.size, 0, none⟩ 1 (by simp [Act.eval]) (encM ⟨nm, ro, qu⟩) rfl (Gn.row_new wr.drew (encM ⟨nm, ro, qu⟩) 48 wr.heap.size rfl) (encM_one _) (by unfold maxLen; omega) (by omega) (by simp; have := Gn.heap_lt HK0.out.box; simp at this; omega) ?_
        intro v9 w9 ho9 hg9
        have h9 := HK1.out.snocM hkl (by rw [HX5.out]; exact ho9) hg9
        rw [HZV.out] at h9
        have HG9 := Lib.hid h9
        have HB9 := Lib.hid (HK1.out.grown HK1.out.rm hg9)
        obtain ⟨A9, c9, rfl⟩ := Gn.slice_of ho9
        have b0 := cell_of_row _ _ 0 _ _ (0, 0) HB9.out.2
        have f0 := Gn.frozen_row HB9.out.2 0
        rw [HZV.out] at b0 f0
        clear ho9 hg9 h9
        refine hK.out _ _ (HSQ.out _ HB9.out.1) (fun hHeld => ?_)
        clear hK K
        try simp only [Act.put, List.setIfInBounds_toArray, List.set_cons_zero, List.set_cons_succ]
        refine wpAnyH_take (i := 9) (v := ?_) rfl (by kernel_rfl) (by kernel_rfl) (by kernel_rfl) (fun _ _ _ h => h) (Or.inl ⟨by rfl, ?_⟩) (by assumption) ?_
        rotate_left
        · intro w hSw
          try dsimp only at hSw
          go_simp
          try with_reducible rfl
        try simp only [Act.put, List.setIfInBounds_toArray, List.set_cons_zero, List.set_cons_succ]
        refine wpAnyH_ready (rs := [10]) (by kernel_rfl) (by simp) ?_
        refine AllReadyH.cons rfl (fun K hK => ?_) AllReadyH.nil
        go_simp
        refine hK.out _ _ (HSQ.out _ HG9.out.bel) (fun hHeld => ?_)
        clear hK K
        try simp only [Act.put, List.setIfInBounds_toArray, List.set_cons_zero, List.set_cons_succ]
        refine wpAnyH_done (by kernel_rfl) ?_ _
        refine NoPanic.normal ?_
        go_wp2_with fail
        go_roundw
        case rel => exact ⟨k + 1, _, by omega, by go_num, HG9.out⟩
        case measure => simp [intOf]; omega
    · have hlt2 : ¬ (k : Int) < (n : Int) := by omega
      have hke : n = k := by omega
      subst hke
      obtain ⟨A1z, c1z, rfl⟩ := Gn.slice_of HK.out.rm
      go_wp2_with fail
      clear x0 x1 hxk
      go_loopw [5] (fun x wq => ∃ (q : Nat) (vc : Value), q ≤ m ∧ x = .int .i64 q ∧ TdA r.ms raws V wq n q (.slice A1z n c1z) vc) (fun x _ => m - (intOf x).toNat)
      case atStart => exact ⟨0, _, Nat.zero_le _, rfl, HK.out⟩
      case round =>
        obtain ⟨k, vc, hk2, rfl, hkp⟩ := hrel
        have HK := Lib.hid hkp
        have hxk := (hkp.bel.block _ (by rw [HZV.out]; omega)).trans HX.out
        have x0 := cell_of_row _ _ 0 _ _ (0, 0) hxk
        have x1 := cell_of_row _ _ 1 _ _ (0, 0) hxk
        clear hkp
        by_cases hlt : k < m
        · have hlt2 : (k : Int) < (m : Int) := by omega
          have hkl : k < raws.length := by rw [HRL.out]; exact hlt
          have hkc : k < r.cs.length := by rw [← HMM.out]; exact hlt
          obtain ⟨A1, c1, rfl⟩ := Gn.slice_of HK.out.rc
          obtain ⟨A5, c5, b5, h5, _, _, h5c, h5d⟩ := HRO.out
          rw [HRL.out] at h5 h5c
          injection h5 with h5 _ h5k
          subst h5
          subst h5k
          obtain ⟨rfl, hb5, _⟩ := h5c (by omega)
          obtain ⟨x, hx⟩ : ∃ x, x = raws[k] := ⟨_, rfl⟩
          obtain ⟨A7, c7, b7, h7, _⟩ := (HAL.out.2 k hkl hkc).2.2
          obtain ⟨sl, hsl⟩ : ∃ sl, sl = r.cs[k].studs.length := ⟨_, rfl⟩
          rw [← hsl] at h7
          have k0 := h5d k hkl 0 _ rfl
          have k1 := h5d k hkl 1 _ rfl
          have k2 := h5d k hkl 2 _ rfl
          rw [← hx] at k0 k1 k2 h7
          rw [Nat.add_zero] at k0
          obtain ⟨cn, ct, cs⟩ := x
          dsimp only at k0 k1 k2 h7
          subst h7
          have HX5 := Lib.hid hx.symm
          have HSQ := Lib.hid (fun (w' : World) (b : Below V.heap.size V w') => show (fun w' : World => w'.cell? ⟨W.heap.size, 1, none⟩ = some (.slice (some ⟨b5, 0, none⟩) m cc) ∧ w'.cell? ⟨b5, k * 3, none⟩ = some (.string cn) ∧ w'.cell? ⟨b5, k * 3 + 1, none⟩ = some (.string ct) ∧ w'.cell? ⟨b5, k * 3 + 2, none⟩ = some (.slice A7 sl c7)) w' from ⟨cell_of_row _ _ 1 _ _ (0, 0) ((b.block _ (by rw [HZV.out]; omega)).trans HX.out), (b.cell (p := ⟨b5, k * 3, none⟩) hb5).trans k0, (b.cell (p := ⟨b5, k * 3 + 1, none⟩) hb5).trans k1, (b.cell (p := ⟨b5, k * 3 + 2, none⟩) hb5).trans k2⟩)
          have HK0 := Lib.hid (HK.out.under (Gn.below_drew (Below.refl _ _)))
          have HK1 := Lib.hid (HK0.out.under ((Below.refl _ _).alloc (Nat.le_refl _) (.cells #[.string cn, .string ct, .slice A7 sl c7] 57)))
          have hw1 : IntKind.i64.wrap ((k : Int) + 1) = ((k + 1 : Nat) : Int) := IntWalk.i64_in _ (by omega)
          clear k0 k1 k2 hx h5d hb5 h5c hxk hsl
          go_upto_region 9 with fail
          clear x0 x1
          refine wp_region_noPanic ?_
          refine wp_region_held_drew (S := (fun w' : World => w'.cell? ⟨W.heap.size, 1, none⟩ = some (.slice (some ⟨b5, 0, none⟩) m cc) ∧ w'.cell? ⟨b5, k * 3, none⟩ = some (.string cn) ∧ w'.cell? ⟨b5, k * 3 + 1, none⟩ = some (.string ct) ∧ w'.cell? ⟨b5, k * 3 + 2, none⟩ = some (.slice A7 sl c7))) (by kernel_rfl) ?_ (fun hHeld => ?_)
          · exact HSQ.out _ (Gn.below_drew HK.out.bel)
          refine wpAnyH_take (i := 0) (v := ?_) rfl (by kernel_rfl) (by kernel_rfl) (by kernel_rfl) (fun _ _ _ h => h) (Or.inl ⟨by rfl, ?_⟩) (by assumption) ?_
          rotate_left
          · intro w hSw
            try dsimp only at hSw
            go_simp
            try with_reducible rfl
          try simp only [Act.put, List.setIfInBounds_toArray, List.set_cons_zero, List.set_cons_succ]
          refine wpAnyH_take (i := 2) (v := ?_) rfl (by kernel_rfl) (by kernel_rfl) (by kernel_rfl) (fun _ _ _ h => h) (Or.inl ⟨by rfl, ?_⟩) (by assumption) ?_
          rotate_left
          · intro w hSw
            try dsimp only at hSw
            go_simp
            try with_reducible rfl
          try simp only [Act.put, List.setIfInBounds_toArray, List.set_cons_zero, List.set_cons_succ]
          refine wpAnyH_take (i := 3) (v := ?_) rfl (by kernel_rfl) (by kernel_rfl) (by kernel_rfl) (fun _ _ _ h => h) (Or.inl ⟨by rfl, ?_⟩) (by assumption) ?_
          rotate_left
          · intro w hSw
            try dsimp only at hSw
            go_simp
            try with_reducible rfl
          try simp only [Act.put, List.setIfInBounds_toArray, List.set_cons_zero, List.set_cons_succ]
          refine wpAnyH_take (i := 4) (v := ?_) rfl (by kernel_rfl) (by kernel_rfl) (by kernel_rfl) (fun _ _ _ h => h) (Or.inl ⟨by rfl, ?_⟩) (by assumption) ?_
          rotate_left
          · intro w hSw
            try dsimp only at hSw
            go_simp
            try with_reducible rfl
          try simp only [Act.put, List.setIfInBounds_toArray, List.set_cons_zero, List.set_cons_succ]
          refine wpAnyH_take (i := 5) (v := ?_) rfl (by kernel_rfl) (by kernel_rfl) (by kernel_rfl) (fun _ _ _ h => h) (Or.inl ⟨by rfl, ?_⟩) (by assumption) ?_
          rotate_left
          · intro w hSw
            try dsimp only at hSw
            go_simp
            try with_reducible rfl
          try simp only [Act.put, List.setIfInBounds_toArray, List.set_cons_zero, List.set_cons_succ]
          refine wpAnyH_take (i := 6) (v := ?_) rfl (by kernel_rfl) (by kernel_rfl) (by kernel_rfl) (fun _ _ _ h => h) (Or.inl ⟨by rfl, ?_⟩) (by assumption) ?_
          rotate_left
          · intro w hSw
            try dsimp only at hSw
            go_simp
            try with_reducible rfl
          try simp only [Act.put, List.setIfInBounds_toArray, List.set_cons_zero, List.set_cons_succ]
          refine wpAnyH_take (i := 7) (v := ?_) rfl (by kernel_rfl) (by kernel_rfl) (by kernel_rfl) (fun _ _ _ h => h) (Or.inl ⟨by rfl, ?_⟩) (by assumption) ?_
          rotate_left
          · intro w hSw
            try dsimp only at hSw
            go_simp
            try with_reducible rfl
          try simp only [Act.put, List.setIfInBounds_toArray, List.set_cons_zero, List.set_cons_succ]
          refine wpAnyH_take (i := 8) (v := ?_) rfl (by kernel_rfl) (by kernel_rfl) (by kernel_rfl) (fun _ _ _ h => h) (Or.inl ⟨by rfl, ?_⟩) (by assumption) ?_
          rotate_left
          · intro w hSw
            try dsimp only at hSw
            go_simp
            try with_reducible rfl
          try simp only [Act.put, List.setIfInBounds_toArray, List.set_cons_zero, List.set_cons_succ]
          refine wpAnyH_take (i := 9) (v := ?_) rfl (by kernel_rfl) (by kernel_rfl) (by kernel_rfl) (fun _ _ _ h => h) (Or.inl ⟨by rfl, ?_⟩) (by assumption) ?_
          rotate_left
          · intro w hSw
            try dsimp only at hSw
            go_simp
            try with_reducible rfl
          try simp only [Act.put, List.setIfInBounds_toArray, List.set_cons_zero, List.set_cons_succ]
          refine wpAnyH_take (i := 10) (v := ?_) rfl (by kernel_rfl) (by kernel_rfl) (by kernel_rfl) (fun _ _ _ h => h) (Or.inl ⟨by rfl, ?_⟩) (by assumption) ?_
          rotate_left
          · intro w hSw
            try dsimp only at hSw
            go_simp
            try with_reducible rfl
          try simp only [Act.put, List.setIfInBounds_toArray, List.set_cons_zero, List.set_cons_succ]
          refine wpAnyH_take (i := 11) (v := ?_) rfl (by kernel_rfl) (by kernel_rfl) (by kernel_rfl) (fun _ _ _ h => h) (Or.inl ⟨by rfl, ?_⟩) (by assumption) ?_
          rotate_left
          · intro w hSw
            try dsimp only at hSw
            go_simp
            try with_reducible rfl
          try simp only [Act.put, List.setIfInBounds_toArray, List.set_cons_zero, List.set_cons_succ]
          refine wpAnyH_take (i := 12) (v := ?_) rfl (by kernel_rfl) (by kernel_rfl) (by kernel_rfl) (fun _ _ _ h => h) (Or.inl ⟨by rfl, ?_⟩) (by assumption) ?_
          rotate_left
          · intro w hSw
            try dsimp only at hSw
            go_simp
            try with_reducible rfl
          try simp only [Act.put, List.setIfInBounds_toArray, List.set_cons_zero, List.set_cons_succ]
          refine wpAnyH_take (i := 13) (v := ?_) rfl (by kernel_rfl) (by kernel_rfl) (by kernel_rfl) (fun _ _ _ h => h) (Or.inl ⟨by rfl, ?_⟩) (by assumption) ?_
          rotate_left
          · intro w hSw
            try dsimp only at hSw
            go_simp
            try with_reducible rfl
          try simp only [Act.put, List.setIfInBounds_toArray, List.set_cons_zero, List.set_cons_succ]
          refine wpAnyH_take (i := 14) (v := ?_) rfl (by kernel_rfl) (by kernel_rfl) (by kernel_rfl) (fun _ _ _ h => h) (Or.inl ⟨by rfl, ?_⟩) (by assumption) ?_
          rotate_left
          · intro w hSw
            try dsimp only at hSw
            go_simp
            try with_reducible rfl
          try simp only [Act.put, List.setIfInBounds_toArray, List.set_cons_zero, List.set_cons_succ]
          refine wpAnyH_take (i := 15) (v := ?_) rfl (by kernel_rfl) (by kernel_rfl) (by kernel_rfl) (fun _ _ _ h => h) (Or.inl ⟨by rfl, ?_⟩) (by assumption) ?_
          rotate_left
          · intro w hSw
            try dsimp only at hSw
            go_simp
            try with_reducible rfl
          try simp only [Act.put, List.setIfInBounds_toArray, List.set_cons_zero, List.set_cons_succ]
          refine wpAnyH_take (i := 16) (v := ?_) rfl (by kernel_rfl) (by kernel_rfl) (by kernel_rfl) (fun _ _ _ h => h) (Or.inl ⟨by rfl, ?_⟩) (by assumption) ?_
          rotate_left
          · intro w hSw
            try dsimp only at hSw
            go_simp
            try with_reducible rfl
          try simp only [Act.put, List.setIfInBounds_toArray, List.set_cons_zero, List.set_cons_succ]
          refine wpAnyH_take (i := 17) (v := ?_) rfl (by kernel_rfl) (by kernel_rfl) (by kernel_rfl) (fun _ _ _ h => h) (Or.inl ⟨by rfl, ?_⟩) (by assumption) ?_
          rotate_left
          · intro w hSw
            try dsimp only at hSw
            go_simp
            try with_reducible rfl
          try simp only [Act.put, List.setIfInBounds_toArray, List.set_cons_zero, List.set_cons_succ]
          refine wpAnyH_take (i := 18) (v := ?_) rfl (by kernel_rfl) (by kernel_rfl) (by kernel_rfl) (fun _ _ _ h => h) (Or.inl ⟨by rfl, ?_⟩) (by assumption) ?_
          rotate_left
          · intro w hSw
            try dsimp only at hSw
            go_simp
            try with_reducible rfl
          try simp only [Act.put, List.setIfInBounds_toArray, List.set_cons_zero, List.set_cons_succ]
          refine wpAnyH_take (i := 19) (v := ?_) rfl (by kernel_rfl) (by kernel_rfl) (by kernel_rfl) (fun _ _ _ h => h) (Or.inl ⟨by rfl, ?_⟩) (by assumption) ?_
          rotate_left
          · intro w hSw
            try dsimp only at hSw
            go_simp
            try with_reducible rfl
          try simp only [Act.put, List.setIfInBounds_toArray, List.set_cons_zero, List.set_cons_succ]
          refine wpAnyH_take (i := 20) (v := ?_) rfl (by kernel_rfl) (by kernel_rfl) (by kernel_rfl) (fun _ _ _ h => h) (Or.inl ⟨by rfl, ?_⟩) (by assumption) ?_
          rotate_left
          · intro w hSw
            try dsimp only at hSw
            go_simp
            try with_reducible rfl
          try simp only [Act.put, List.setIfInBounds_toArray, List.set_cons_zero, List.set_cons_succ]
          refine wpAnyH_ready (rs := [1, 21]) (by kernel_rfl) (by simp) ?_
          refine AllReadyH.cons rfl (fun K hK => ?_) ?_
          · have bx := cell_of_row _ _ 1 _ _ (0, 0) HK0.out.box
            rw [HZV.out] at bx
            go_simp
            refine hK.out _ _ (HSQ.out _ HK0.out.bel) (fun hHeld => ?_)
            clear hK K
            try simp only [Act.put, List.setIfInBounds_toArray, List.set_cons_zero, List.set_cons_succ]
            refine wpAnyH_ready (rs := [21]) (by kernel_rfl) (by simp) ?_
            refine AllReadyH.cons rfl (fun K hK => ?_) AllReadyH.nil
            go_simp
            refine hK.out _ _ (HSQ.out _ HK1.out.bel) (fun hHeld => ?_)
            clear hK K
            try simp only [Act.put, List.setIfInBounds_toArray, List.set_cons_zero, List.set_cons_succ]
            refine wpAnyH_ready (rs := [22]) (by kernel_rfl) (by simp) ?_
            refine AllReadyH.cons rfl (fun K hK => ?_) AllReadyH.nil
            refine step_append3 _ (by rfl) (.tmp 31) (.tmp 51) 29 57 (by rfl) i1 _ 56 Tryz.underlying29 hi1 hy0 hy1 hy2 rfl (V.heap.size + 1) (.slice A1 k c1) k (cellsOf encC (raws.take k)) (by simp [Act.eval]) HK1.out.rc ⟨wr.heap.size, 0, none⟩ 1 (by simp [Act.eval]) (encC ⟨cn, ct, .slice A7 sl c7⟩) rfl (Gn.row_new wr.drew (encC ⟨cn, ct, .slice A7 sl c7⟩) 57 wr.heap.size rfl) (by intro u hu; simp [encC] at hu; rcases hu with rfl | rfl | rfl <;> rfl) (by unfold maxLen; omega) (by omega) (by simp; have := Gn.heap_lt HK0.out.box; simp at this; omega) ?_
            intro v9 w9 ho9 hg9
            have h9 := HK1.out.snocC hkl (by rw [HX5.out]; exact ho9) hg9
            rw [HZV.out] at h9
            have HG9 := Lib.hid h9
            have HB9 := Lib.hid (HK1.out.grown HK1.out.rc hg9)
            obtain ⟨A9, c9, rfl⟩ := Gn.slice_of ho9
            have b0 := cell_of_row _ _ 1 _ _ (0, 0) HB9.out.2
            have f0 := Gn.frozen_row HB9.out.2 1
            rw [HZV.out] at b0 f0
            clear ho9 hg9 h9
            refine hK.out _ _ (HSQ.out _ HB9.out.1) (fun hHeld => ?_)
            clear hK K
            try simp only [Act.put, List.setIfInBounds_toArray, List.set_cons_zero, List.set_cons_succ]
            refine wpAnyH_take (i := 23) (v := ?_) rfl (by kernel_rfl) (by kernel_rfl) (by kernel_rfl) (fun _ _ _ h => h) (Or.inl ⟨by rfl, ?_⟩) (by assumption) ?_
            rotate_left
            · intro w hSw
              try dsimp only at hSw
              go_simp
              try with_reducible rfl
            try simp only [Act.put, List.setIfInBounds_toArray, List.set_cons_zero, List.set_cons_succ]
            refine wpAnyH_ready (rs := [24]) (by kernel_rfl) (by simp) ?_
            refine AllReadyH.cons rfl (fun K hK => ?_) AllReadyH.nil
            go_simp
            refine hK.out _ _ (HSQ.out _ HG9.out.bel) (fun hHeld => ?_)
            clear hK K
            try simp only [Act.put, List.setIfInBounds_toArray, List.set_cons_zero, List.set_cons_succ]
            refine wpAnyH_done (by kernel_rfl) ?_ _
            refine NoPanic.normal ?_
            go_wp2_with fail
            go_roundw
            case rel => exact ⟨k + 1, _, by omega, by go_num, HG9.out⟩
            case measure => simp [intOf]; omega
          refine AllReadyH.cons rfl (fun K hK => ?_) AllReadyH.nil
          · go_simp
            refine hK.out _ _ (HSQ.out _ HK1.out.bel) (fun hHeld => ?_)
            clear hK K
            try simp only [Act.put, List.setIfInBounds_toArray, List.set_cons_zero, List.set_cons_succ]
            refine wpAnyH_ready (rs := [1]) (by kernel_rfl) (by simp) ?_
            refine AllReadyH.cons rfl (fun K hK => ?_) AllReadyH.nil
            have bx := cell_of_row _ _ 1 _ _ (0, 0) HK1.out.box
            rw [HZV.out] at bx
            have bx2 : (wr.alloc (.cells #[.string cn, .string ct, .slice A7 sl c7] 57)).cell? ⟨W.heap.size + 1 + 1, 1, none⟩ = some _ := bx
            go_simp
            refine hK.out _ _ (HSQ.out _ HK1.out.bel) (fun hHeld => ?_)
            clear hK K
            try simp only [Act.put, List.setIfInBounds_toArray, List.set_cons_zero, List.set_cons_succ]
            refine wpAnyH_ready (rs := [22]) (by kernel_rfl) (by simp) ?_
            refine AllReadyH.cons rfl (fun K hK => ?_) AllReadyH.nil
            refine step_append3 _ (by rfl) (.tmp 31) (.tmp 51) 29 57 (by rfl) i1 _ 56 Tryz.underlying29 hi1 hy0 hy1 hy2 rfl (V.heap.size + 1) (.slice A1 k c1) k (cellsOf encC (raws.take k)) (by simp [Act.eval]) HK1.out.rc ⟨wr.heap.size, 0, none⟩ 1 (by simp [Act.eval]) (encC ⟨cn, ct, .slice A7 sl c7⟩) rfl (Gn.row_new wr.drew (encC ⟨cn, ct, .slice A7 sl c7⟩) 57 wr.heap.size rfl) (by intro u hu; simp [encC] at hu; rcases hu with rfl | rfl | rfl <;> rfl) (by unfold maxLen; omega) (by omega) (by simp; have := Gn.heap_lt HK0.out.box; simp at this; omega) ?_
            intro v9 w9 ho9 hg9
            have h9 := HK1.out.snocC hkl (by rw [HX5.out]; exact ho9) hg9
            rw [HZV.out] at h9
            have HG9 := Lib.hid h9
            have HB9 := Lib.hid (HK1.out.grown HK1.out.rc hg9)
            obtain ⟨A9, c9, rfl⟩ := Gn.slice_of ho9
            have b0 := cell_of_row _ _ 1 _ _ (0, 0) HB9.out.2
            have f0 := Gn.frozen_row HB9.out.2 1
            rw [HZV.out] at b0 f0
            clear ho9 hg9 h9
            refine hK.out _ _ (HSQ.out _ HB9.out.1) (fun hHeld => ?_)
            clear hK K
            try simp only [Act.put, List.setIfInBounds_toArray, List.set_cons_zero, List.set_cons_succ]
            refine wpAnyH_take (i := 23) (v := ?_) rfl (by kernel_rfl) (by kernel_rfl) (by kernel_rfl) (fun _ _ _ h => h) (Or.inl ⟨by rfl, ?_⟩) (by assumption) ?_
            rotate_left
            · intro w hSw
              try dsimp only at hSw
              go_simp
              try with_reducible rfl
            try simp only [Act.put, List.setIfInBounds_toArray, List.set_cons_zero, List.set_cons_succ]
            refine wpAnyH_ready (rs := [24]) (by kernel_rfl) (by simp) ?_
            refine AllReadyH.cons rfl (fun K hK => ?_) AllReadyH.nil
            go_simp
            refine hK.out _ _ (HSQ.out _ HG9.out.bel) (fun hHeld => ?_)
            clear hK K
            try simp only [Act.put, List.setIfInBounds_toArray, List.set_cons_zero, List.set_cons_succ]
            refine wpAnyH_done (by kernel_rfl) ?_ _
            refine NoPanic.normal ?_
            go_wp2_with fail
            go_roundw
            case rel => exact ⟨k + 1, _, by omega, by go_num, HG9.out⟩
            case measure => simp [intOf]; omega
        · have hlt2 : ¬ (k : Int) < (m : Int) := by omega
          have hke : k = m := by omega
          subst hke
          obtain ⟨A2z, c2z, rfl⟩ := Gn.slice_of HK.out.rc
          have b0 := cell_of_row _ _ 0 _ _ (0, 0) HK.out.box
          have b1 := cell_of_row _ _ 1 _ _ (0, 0) HK.out.box
          rw [HZV.out] at b0 b1
          have hq := (HK.out.bel.block (W.heap.size + 1) (by rw [HZV.out]; omega)).trans HXR.out
          have f0 := Gn.frozen_row hq 0
          have f1 := Gn.frozen_row hq 1
          have r0 := cell_of_row _ _ 0 _ _ (0, 0) hq
          have r1 := cell_of_row _ _ 1 _ _ (0, 0) hq
          have HRS := Lib.hid (Gn.heap_set (Gn.heap_set hq 0 (.slice A1z n c1z)) 1 (.slice A2z k c2z))
          have HBW := Lib.hid ((HB.out.trans (HK.out.bel.mono HB.out.size)).setCell (p := ⟨W.heap.size + 1, 0, none⟩) (by show W.heap.size ≤ W.heap.size + 1; omega) (.slice A1z n c1z) |>.setCell (p := ⟨W.heap.size + 1, 1, none⟩) (by show W.heap.size ≤ W.heap.size + 1; omega) (.slice A2z k c2z))
          clear hq
          go_wp2_with fail
          refine bodyPost_ret (results_cell_agg (P := Tryz.prog) rfl _ _ (W.heap.size + 1) 31 _ (0, 0) _ rfl HRS.out Tryz.underlying31 rfl (by kernel_rfl)) rfl ?_
          have hm1 := HK.out.rm
          have hc1 := HK.out.rc
          rw [List.take_of_length_le (by rw [← HNN.out]; omega)] at hm1
          rw [List.take_of_length_le (by rw [HRL.out]; omega)] at hc1
          refine ⟨_, rfl, ⟨_, _, rfl, ?_, raws, ?_, HAL.out.keep HBW.out.size fun q _ hq => ⟨trivial, fun j => HBW.out.cell (p := ⟨q, j, none⟩) hq⟩⟩, HBW.out⟩
          · refine (RowAt.of_own encM_len (l := r.ms) (base := V.heap.size + 1) (e := 48) ?_).keep (Nat.le_refl _) fun q _ _ => ⟨trivial, fun _ => rfl⟩
            rw [← HNN.out]
            exact own_keep hm1 fun q hq => (set_far q (by have := Gn.own_block hm1 q hq; rw [HZV.out] at this; omega)).trans (set_far q (by have := Gn.own_block hm1 q hq; rw [HZV.out] at this; omega))
          · refine (RowAt.of_own encC_len (l := raws) (base := V.heap.size + 1) (e := 57) ?_).keep (Nat.le_refl _) fun q _ _ => ⟨trivial, fun _ => rfl⟩
            rw [HRL.out]
            exact own_keep hc1 fun q hq => (set_far q (by have := Gn.own_block hc1 q hq; rw [HZV.out] at this; omega)).trans (set_far q (by have := Gn.own_block hc1 q hq; rw [HZV.out] at this; omega))
end Go.Proofs.YtnmhgjoofgmcgaaGreat.Rl

namespace Go.Proofs.YtnmhgjoofgmcgaaGreat.Rl
open Go.RowKit
open Fx (StrsAt)
open Oct (pb bs)
set_option maxRecDepth 100000
set_option linter.unusedSimpArgs false
set_option linter.unusedVariables false
def tdT (r : Rol) (v : Value) (w : World) : Prop := RlAt (fun _ => True) w r v
theorem tdT_st (r : Rol) : LooseD.St (tdT r) := fun v w w' h b => RlAt.under h b
set_option maxHeartbeats 4000000 in
theorem same_any (r : Rol) (hsz : (qPut r).length ≤ BIG) (hn : r.ms.length ≤ 4096) (hm : r.cs.length ≤ 4096) (hst : ∀ c ∈ r.cs, c.studs.length ≤ 4096) (P Q : Nat → Prop) (W : World) (v u : Value) (h : RlAt P W r v) (k : RlAt Q W r u) :
    Calls Tryz.prog 8 #[v, u] W fun e w' => e = .returned (.bool true) ∧ Below W.heap.size W w' := by
  obtain ⟨Am, cm, Ac, cc, hv, _, _⟩ := h.form
  obtain ⟨Bm, dm, Bc, dc, hu, _, _⟩ := k.form
  subst hv
  subst hu
  obtain ⟨n, hnn⟩ : ∃ n, n = r.ms.length := ⟨_, rfl⟩
  obtain ⟨m, hmm⟩ : ∃ m, m = r.cs.length := ⟨_, rfl⟩
  rw [← hnn, ← hmm] at h k ⊢
  obtain ⟨p, hp⟩ : ∃ p, p = mkS (qPut r) := ⟨_, rfl⟩
  have HT := Lib.hid (fun (w : World) (v : Value) (h : RlAt P w r v) => told_any r hn hm P w v h)
  have HP := Lib.hid (fun (Z : Nat → Prop) (w : World) (v : Value) (h : RlAt Z w r v) => refput_any r hsz hn hm hst Z w v h)
  rw [← hp] at HP
  obtain ⟨V, hV⟩ : ∃ V, V = (W.alloc (.cells #[.slice Am n cm, .slice Ac m cc] 27)).alloc (.cells #[.slice Bm n dm, .slice Bc m dc] 31) := ⟨_, rfl⟩
  have hb : Below W.heap.size W V := by rw [hV]; exact ((Below.refl _ W).alloc (Nat.le_refl _) _).alloc (by simp) _
  have hx : V.heap[W.heap.size]? = some (.cells #[.slice Am n cm, .slice Ac m cc] 27 (0, 0)) := by rw [hV]; exact (heap_alloc_old _ _ (by simp)).trans (heap_alloc_new W _)
  have hy : V.heap[W.heap.size + 1]? = some (.cells #[.slice Bm n dm, .slice Bc m dc] 31 (0, 0)) := by
    rw [hV]; have := heap_alloc_new (W.alloc (.cells #[.slice Am n cm, .slice Ac m cc] 27)) (.cells #[.slice Bm n dm, .slice Bc m dc] 31); simpa using this
  have HH := Lib.hid (h.under hb)
  have HK := Lib.hid (k.under hb)
  have HB := Lib.hid hb
  have HV := Lib.hid hV
  have HCE := Lib.hid (fun (w : World) (b : Below V.heap.size V w) => (⟨cell_of_row _ _ 0 _ _ (0, 0) ((b.block _ (Gn.heap_lt hx)).trans hx), cell_of_row _ _ 1 _ _ (0, 0) ((b.block _ (Gn.heap_lt hx)).trans hx), cell_of_row _ _ 0 _ _ (0, 0) ((b.block _ (Gn.heap_lt hy)).trans hy), cell_of_row _ _ 1 _ _ (0, 0) ((b.block _ (Gn.heap_lt hy)).trans hy)⟩ : w.cell? ⟨W.heap.size, 0, none⟩ = some (.slice Am n cm) ∧ w.cell? ⟨W.heap.size, 1, none⟩ = some (.slice Ac m cc) ∧ w.cell? ⟨W.heap.size + 1, 0, none⟩ = some (.slice Bm n dm) ∧ w.cell? ⟨W.heap.size + 1, 1, none⟩ = some (.slice Bc m dc)))
  clear h k hb hV hx hy hp hnn hmm hsz hst
  go_enter Tryz.func8, Tryz.ntmps8
  go_upto_region 1 with fail
  rw [← HV.out]
  refine LooseD.region_loose (fun w => Below V.heap.size V w) _ _ (by kernel_rfl) (by kernel_rfl)
    (LooseD.waits (D := [[], [], [1], [], [], [], []]) (by kernel_rfl))
    (LooseD.stays (ts := [none, some (.told (tdT r)), some (.is (.string p)), none, some (.is (.string p)), none, none]) (fun w w' h b => h.trans (b.mono h.size)) (.none (.told (tdT_st r) (.is (.none (.is (.none (.none .nil))))))))
    (Gn.below_drew (Below.refl _ _)) ?_
  refine LooseD.reads (.agg #[.slice Am n cm, .slice Ac m cc]) rfl rfl ?_ ?_
  · intro w hw
    obtain ⟨y0, y1, y2, y3⟩ := HCE.out w hw
    clear hw
    go_simp
  try simp only [Act.put, List.setIfInBounds_toArray, List.set_cons_zero, List.set_cons_succ]
  refine LooseD.calls (tdT r) 33 #[.agg #[.slice Am n cm, .slice Ac m cc]] rfl rfl ?_ (fun w hw _ => (HT.out w _ (HH.out.under hw)).mono fun e w' ⟨v', h1, h2, h3⟩ => ⟨v', h1, h3, h2⟩) (fun v6 => ?_)
  · intro w hw
    clear hw
    go_simp
  try simp only [Act.put, List.setIfInBounds_toArray, List.set_cons_zero, List.set_cons_succ]
  refine LooseD.gives (.string p) 11 #[v6] rfl rfl ?_ (fun w hw hH => HP.out _ w _ (hH 1 (by decide) v6 _ rfl rfl)) ?_
  · intro w hw
    clear hw
    go_simp
  try simp only [Act.put, List.setIfInBounds_toArray, List.set_cons_zero, List.set_cons_succ]
  refine LooseD.reads (.agg #[.slice Bm n dm, .slice Bc m dc]) rfl rfl ?_ ?_
  · intro w hw
    obtain ⟨y0, y1, y2, y3⟩ := HCE.out w hw
    clear hw
    go_simp
  try simp only [Act.put, List.setIfInBounds_toArray, List.set_cons_zero, List.set_cons_succ]
  refine LooseD.gives (.string p) 11 #[.agg #[.slice Bm n dm, .slice Bc m dc]] rfl rfl ?_ (fun w hw hH => HP.out _ w _ (HK.out.under hw)) ?_
  · intro w hw
    clear hw
    go_simp
  try simp only [Act.put, List.setIfInBounds_toArray, List.set_cons_zero, List.set_cons_succ]
  refine LooseD.reads (.bool true) rfl rfl ?_ ?_
  · intro w hw
    clear hw
    go_simp
  try simp only [Act.put, List.setIfInBounds_toArray, List.set_cons_zero, List.set_cons_succ]
  refine LooseD.reads (.bool true) rfl rfl ?_ ?_
  · intro w hw
    clear hw
    go_simp
  try simp only [Act.put, List.setIfInBounds_toArray, List.set_cons_zero, List.set_cons_succ]
  refine LooseD.done fun w' hw' _ => ?_
  have HW := Lib.hid hw'
  clear hw'
  go_wp2_with fail
  go_ret
  exact ⟨rfl, HB.out.trans (HW.out.mono HB.out.size)⟩
end Go.Proofs.YtnmhgjoofgmcgaaGreat.Rl
