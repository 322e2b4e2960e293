/-
  Layer 14: the walk of all.
-/
import Derived.Test.YtjlppffkacimoaaTrU
namespace Go.Proofs.Ytjlppffkacimoaa.Tr
open Go.RowKit Go.Shelf
open Gn (Asks)
open Fx (IntsAt own_of_block own_base)
attribute [local go_sem] Oper.semAt_some
set_option maxRecDepth 100000
set_option linter.unusedSimpArgs false
set_option linter.unusedVariables false

theorem cell_one {w : World} {b : Nat} {v : Value} {t : TypeId} (h : w.heap[b]? = some (.cells #[v] t (0, 0))) : w.cell? ⟨b, 0, none⟩ = some v := cell_of_row _ _ 0 _ _ (0, 0) h
set_option maxHeartbeats 8000000 in
theorem all_in (n : Nat) (hn : 3 ≤ n) (lo b : Nat) (A B : List Int) (va vb : Value) (w : World) (h : SyAt lo b A B va vb w) (hl : A.length + B.length ≤ 1099511627776) (hlo : lo ≤ w.heap.size) :
    CallsIn Fence.wide n Try.prog 52 #[.pointer (some ⟨b, 0, none⟩)] w fun e W' => ∃ v, e = .returned v ∧ W'.ownsRow lo 3 1 v (A.length + B.length) ((A ++ B.reverse).map (Value.int .i64)) ∧ Below lo w W' := by
  have h1 : 1 ≤ n := by omega
  obtain ⟨i0, hi0, hz0, hz1, hz2⟩ := info_parts Fx.iinfo
  obtain ⟨Ab, cb, rfl⟩ := Gn.slice_of h.behind
  have c1 := cell_of_row _ _ 1 _ _ (0, 0) h.box
  have hbz := Gn.heap_lt h.box
  have H := Lib.hid h
  have HBZ := Lib.hid hbz
  obtain ⟨bl, hbl⟩ : ∃ bl, bl = B.length := ⟨_, rfl⟩
  rw [← hbl] at c1 hl
  have HBL := Lib.hid hbl
  clear h hbz hbl
  refine callsIn_of_wp_marks Try.func52 rfl trivial ?_ rfl
  simp only [Try.ntmps52, List.size_toArray, List.length_cons, List.length_nil, Nat.reduceAdd, Nat.reduceSub, Array.replicate_succ, Array.replicate_zero, List.push_toArray, List.append_toArray, List.nil_append, List.cons_append]
  have z1 := cell_al c1
  have f4 : Fence.wide.fn 75 := trivial
  have f5 : Fence.wide.fn 90 := trivial
  gi_wp2_with (gi_at_call 75; refine (back_in Fence.wide (n - 1) trivial rfl _ _ _ _).mono ?_; rintro e w' ⟨rfl, rfl⟩)
  obtain ⟨gb, hg1, hg2, hg3, hg4, hg5⟩ : ∃ gb, (0 < bl → Ab = some ⟨gb, 0, none⟩ ∧ gb < w.heap.size) ∧ gb ≠ b ∧ (∀ k, va.ownBlock = some k → k ≠ gb) ∧ gb < w.heap.size + 1 ∧ (gb < w.heap.size → ∃ cs t fr, w.heap[gb]? = some (Obj.cells cs t fr)) := by
    have hh := H.out
    have h2 := HBZ.out
    have h3 := HBL.out
    rcases hh.behind.2 with ⟨e, e0⟩ | ⟨g, cp, cur, e, e2, e3, _⟩
    · refine ⟨w.heap.size, fun h => by omega, by omega, fun k e => ?_, by omega, fun h => by omega⟩
      have := (own_base hh.ahead e).2
      omega
    · injection e with e _ _
      subst e
      refine ⟨g, fun _ => ⟨rfl, Gn.heap_lt e3⟩, fun e => hh.offB (by rw [← e]; rfl), fun k e5 e6 => hh.apart k e5 (by rw [e6]; rfl), by have := Gn.heap_lt e3; omega, fun _ => ⟨_, _, _, e3⟩⟩
  have hbell : ∀ j (hj : j < B.length), w.cell? ⟨gb, j, none⟩ = some (.int .i64 B[j]) := fun j hj => by
    have hh := H.out
    obtain ⟨rfl, _⟩ := hg1 (by rw [HBL.out]; omega)
    have := hh.behind.cells (g := gb) rfl j (.int .i64 B[j]) (by simp [List.getElem?_eq_getElem hj])
    rwa [Gn.add_row] at this
  obtain ⟨f, hf⟩ : ∃ f : Nat → Nm, f = fun j => (((bl - 1 - j : Nat) : Int), B.getD (bl - 1 - j) 0) := ⟨_, rfl⟩
  have hB0 : Below w.heap.size w ((w.alloc (.cells #[.pointer (some ⟨b, 0, none⟩)] 136)).alloc (.cells #[.slice Ab bl cb] 22)) := ((Below.refl _ w).alloc (Nat.le_refl _) _).alloc (by simp) _
  have cN := heap_alloc_new (w.alloc (.cells #[.pointer (some ⟨b, 0, none⟩)] 136)) (.cells #[.slice Ab bl cb] 22)
  have cX := (heap_alloc_old (w.alloc (.cells #[.pointer (some ⟨b, 0, none⟩)] 136)) (.cells #[.slice Ab bl cb] 22) (by simp)).trans (heap_alloc_new w (.cells #[.pointer (some ⟨b, 0, none⟩)] 136))
  simp only [World.size_alloc] at cN
  obtain ⟨V, hV⟩ : ∃ V, V = (w.alloc (.cells #[.pointer (some ⟨b, 0, none⟩)] 136)).alloc (.cells #[.slice Ab bl cb] 22) := ⟨_, rfl⟩
  obtain ⟨G, hGd⟩ : ∃ G : Nat → Prop, G = fun k => k = w.heap.size + 1 ∨ k = gb := ⟨_, rfl⟩
  have hG1 : G (w.heap.size + 1) := by rw [hGd]; exact .inl rfl
  have hG2 : G gb := by rw [hGd]; exact .inr rfl
  have hGo : ∀ k, G k → k = w.heap.size + 1 ∨ k = gb := fun k h => by rw [hGd] at h; exact h
  have HGO := Lib.hid hGo
  clear hGd hGo
  have hG0 : Grow lo b w.heap.size G (fun v => #[v, .slice Ab bl cb]) A w V va ((w.alloc (.cells #[.pointer (some ⟨b, 0, none⟩)] 136)).alloc (.cells #[.slice Ab bl cb] 22)) := by
    have hh := H.out
    have h2 := HBZ.out
    have h8 := HGO.out
    rw [← HBL.out] at hh
    refine ⟨(hB0.block b h2).trans hh.box, own_of_block hh.ahead fun g e => hB0.block g (own_base hh.ahead e).2, fun g e => ⟨fun e2 => hh.offA (by rw [e, e2]), ?_, fun hG => ?_⟩, cX, hB0.mono hlo, ⟨hh.low, hlo⟩, ⟨by omega, fun hG => ?_⟩, by rw [hV]; exact Nat.le_refl _, fun k hG => ?_, fun k _ => by rw [hV]⟩
    · have := (own_base hh.ahead e).2; omega
    · have h7 := (own_base hh.ahead e).2
      rcases h8 _ hG with e3 | e3
      · omega
      · exact hg3 g e e3
    · rcases h8 _ hG with e3 | e3
      · omega
      · exact hg2 e3.symm
    · rw [hV]
      rcases h8 _ hG with e3 | e3
      · rw [e3]; exact ⟨_, _, _, cN⟩
      · rw [e3]
        by_cases h0 : gb < w.heap.size
        · rw [hB0.block gb h0]
          exact hg5 h0
        · have : gb = w.heap.size := by omega
          rw [this]; exact ⟨_, _, _, cX⟩
  refine wpIn_rangeFunc_ownG rfl h1 (gf := 90) (lb := #[.pointer (some ⟨w.heap.size + 1, 0, none⟩)]) rfl f5 (enters_of Try.func90 (by kernel_rfl) rfl)
    (back_stops Fence.wide (n - 1) f5 rfl (by omega) (w.heap.size + 1) gb bl cb Ab f (by omega) _ (fun h0 => ⟨(hg1 h0).1, by have := (hg1 h0).2; simp; omega⟩) (by simp) (cell_one cN) (fun j hj => (hB0.cell (p := ⟨gb, bl - 1 - j, none⟩) (hg1 (by omega)).2).trans (by
      have h9 : bl - 1 - j < B.length := by rw [← HBL.out]; omega
      rw [hbell _ h9, hf]
      simp [List.getD_eq_getElem?_getD, List.getElem?_eq_getElem h9])) (fun j hj => by rw [hf])) (fun h k => h.trans k)
    (fun W l o o' g1 g2 g3 g4 k hk => by
      have hkl : k ≠ l := by simp at g1; omega
      exact World.putObj_heap_other hkl) (Below.refl _ _) (fun _ => rfl)
    (fun pre W => ∃ v, Grow lo b w.heap.size G (fun v => #[v, .slice Ab bl cb]) (A ++ pre.map Prod.snd) w V v W)
    (fun _ _ _ => False)
    (fun s X Y row hs hg hr => by
      obtain ⟨v, hs⟩ := hs
      exact ⟨v, hs.keeps (B := w.heap.size + 1 + 1) (by omega) hg (fun r e => by have := hr r e; simpa using this)⟩)
    (fun _ _ _ _ _ hs _ _ => hs)
    ⟨va, by simpa using hG0⟩
    (fun x => { tmps := #[.pointer (some ⟨b, 0, none⟩), .pointer (some ⟨w.heap.size, 0, none⟩), .slice none 0 0, undef, .int .i64 x.2, .pointer (some ⟨b, 0, none⟩), .pointer (some ⟨b, 0, none⟩), .pointer (some ⟨b, 1, none⟩), .slice Ab bl cb, .func (.func 90) #[] #[.pointer (some ⟨w.heap.size + 1, 0, none⟩)], .int .i64 x.1, .int .i64 x.2, undef, undef, undef, undef, undef, undef, undef, undef, undef, undef, undef, undef, undef, undef], defers := [] }) ?assign ?body ?done ?stop
  case assign =>
    intro l x W K hK
    gi_wp2
    exact hK
  case body =>
    rintro l pre x W ⟨v, hG⟩ hlt
    obtain ⟨xs, hxs⟩ : ∃ xs, xs = A ++ pre.map Prod.snd := ⟨_, rfl⟩
    have hxl : xs.length = A.length + pre.length := by rw [hxs]; simp
    rw [← hxs] at hG
    obtain ⟨Aa, ca, rfl⟩ := Gn.slice_of hG.row
    obtain ⟨m, hm⟩ : ∃ m, m = xs.length := ⟨_, rfl⟩
    have hml : m ≤ 1099511627776 := by omega
    have HG := Lib.hid hG
    have HM := Lib.hid hm
    have HXS := Lib.hid hxs
    have c0 := cell_of_row _ _ 0 _ _ (0, 0) hG.box
    have cx := cell_one hG.lead
    rw [← hm] at c0
    have z0 := cell_al c0
    have hbz := Gn.heap_lt hG.box
    have hxz := Gn.heap_lt hG.lead
    have HBW := Lib.hid hbz
    have HXW := Lib.hid hxz
    clear hG hm hxs hxl hbz hxz cX cN hB0 hG0 hbell hf hg1 c1 z1 hV
    gi_wp2
    refine Tame.region_in (fun _ => trivial) (by kernel_rfl) (fun _ _ h => h) (by kernel_rfl) (fun W' : World => W'.cell? ⟨w.heap.size, 0, none⟩ = some (.pointer (some ⟨b, 0, none⟩))) ?_ (fun hHeld => ?_)
    · exact cx
    refine wpAnyH_take (i := 0) (v := ?_) rfl (by kernel_rfl) (by kernel_rfl) (by kernel_rfl) (fun _ _ _ h => h) (Or.inl ⟨by rfl, ?_⟩) (by assumption) ?_
    rotate_left
    · intro w hSw
      try dsimp only at hSw
      go_simp
      try with_reducible rfl
    try simp only [Act.put, List.setIfInBounds_toArray, List.set_cons_zero, List.set_cons_succ]
    refine wpAnyH_take (i := 1) (v := ?_) rfl (by kernel_rfl) (by kernel_rfl) (by kernel_rfl) (fun _ _ _ h => h) (Or.inl ⟨by rfl, ?_⟩) (by assumption) ?_
    rotate_left
    · intro w hSw
      try dsimp only at hSw
      go_simp
      try with_reducible rfl
    try simp only [Act.put, List.setIfInBounds_toArray, List.set_cons_zero, List.set_cons_succ]
    refine wpAnyH_take (i := 2) (v := ?_) rfl (by kernel_rfl) (by kernel_rfl) (by kernel_rfl) (fun _ _ _ h => h) (Or.inl ⟨by rfl, ?_⟩) (by assumption) ?_
    rotate_left
    · intro w hSw
      try dsimp only at hSw
      go_simp
      try with_reducible rfl
    try simp only [Act.put, List.setIfInBounds_toArray, List.set_cons_zero, List.set_cons_succ]
    refine wpAnyH_take (i := 3) (v := ?_) rfl (by kernel_rfl) (by kernel_rfl) (by kernel_rfl) (fun _ _ _ h => h) (Or.inl ⟨by rfl, ?_⟩) (by assumption) ?_
    rotate_left
    · intro w hSw
      try dsimp only at hSw
      go_simp
      try with_reducible rfl
    try simp only [Act.put, List.setIfInBounds_toArray, List.set_cons_zero, List.set_cons_succ]
    refine wpAnyH_take (i := 5) (v := ?_) rfl (by kernel_rfl) (by kernel_rfl) (by kernel_rfl) (fun _ _ _ h => h) (Or.inl ⟨by rfl, ?_⟩) (by assumption) ?_
    rotate_left
    · intro w hSw
      try dsimp only at hSw
      go_simp
      try with_reducible rfl
    try simp only [Act.put, List.setIfInBounds_toArray, List.set_cons_zero, List.set_cons_succ]
    refine wpAnyH_ready (rs := [4, 6]) (by kernel_rfl) (by simp) ?_
    refine AllReadyH.cons rfl (fun K hK => ?_) ?_
    · go_simp
      refine hK.out _ _ (hHeld) (fun hHeld => ?_)
      clear hK K
      try simp only [Act.put, List.setIfInBounds_toArray, List.set_cons_zero, List.set_cons_succ]
      refine wpAnyH_ready (rs := [6]) (by kernel_rfl) (by simp) ?_
      refine AllReadyH.cons rfl (fun K hK => ?_) AllReadyH.nil
      go_simp
      refine hK.out _ _ (cell_al hHeld _) (fun hHeld => ?_)
      clear hK K
      try simp only [Act.put, List.setIfInBounds_toArray, List.set_cons_zero, List.set_cons_succ]
      refine wpAnyH_ready (rs := [7]) (by kernel_rfl) (by simp) ?_
      refine AllReadyH.cons rfl (fun K hK => ?_) AllReadyH.nil
      refine step_append_lies _ rfl (.tmp 16) (.tmp 18) 22 rfl lo 3 i0 (.int .i64 0) 1 8 Try.underlying22 hi0 hz0 hz1 hz2 rfl (by decide) (.slice Aa m ca) m (xs.map (Value.int .i64)) (by simp [Act.eval]) (by rw [HM.out]; exact HG.out.row.drew.alloc _) ⟨W.heap.size, 0, none⟩ 1 1 [.int .i64 x.2] (by simp [Act.eval]) rfl (Gn.row_new _ [.int .i64 x.2] _ _ rfl) (by simp [Value.oneCell']) (by decide) (by unfold maxLen; omega) (by omega) (by have := HG.out.low; have := HG.out.below.size; simp; omega) _ rfl ?_
      intro gq cap4 w4 hown4 hgrow4 hat4 hlt4
      have HO4 := Lib.hid hown4
      have HG4 := Lib.hid hgrow4
      have HA4 := Lib.hid hat4
      have hx4 := (hgrow4.block b (by have := HBW.out; simp; omega) (fun e => (HG.out.off b (by rw [← HM.out]; exact e.symm)).1 rfl)).trans ((heap_alloc_old W.drew _ HBW.out).trans HG.out.box)
      have hl4 : w4.cell? ⟨w.heap.size, 0, none⟩ = some (.pointer (some ⟨b, 0, none⟩)) := (Gn.cell_same ((hgrow4.block w.heap.size (by have := HXW.out; simp; omega) (fun e => (HG.out.off _ (by rw [← HM.out]; exact e.symm)).2.1 rfl)).trans (heap_alloc_old W.drew _ HXW.out)) 0).trans cx
      have c4 := cell_of_row _ _ 0 _ _ (0, 0) hx4
      have f9 := Gn.frozen_row hx4 0
      clear hx4 hown4 hgrow4 hat4 hlt4
      refine hK.out _ _ (hl4) (fun hHeld => ?_)
      clear hK K
      try simp only [Act.put, List.setIfInBounds_toArray, List.set_cons_zero, List.set_cons_succ]
      refine wpAnyH_take (i := 8) (v := ?_) rfl (by kernel_rfl) (by kernel_rfl) (by kernel_rfl) (fun _ _ _ h => h) (Or.inl ⟨by rfl, ?_⟩) (by assumption) ?_
      rotate_left
      · intro w hSw
        try dsimp only at hSw
        go_simp
        try with_reducible rfl
      try simp only [Act.put, List.setIfInBounds_toArray, List.set_cons_zero, List.set_cons_succ]
      refine wpAnyH_take (i := 9) (v := ?_) rfl (by kernel_rfl) (by kernel_rfl) (by kernel_rfl) (fun _ _ _ h => h) (Or.inl ⟨by rfl, ?_⟩) (by assumption) ?_
      rotate_left
      · intro w hSw
        try dsimp only at hSw
        go_simp
        try with_reducible rfl
      try simp only [Act.put, List.setIfInBounds_toArray, List.set_cons_zero, List.set_cons_succ]
      refine wpAnyH_ready (rs := [10]) (by kernel_rfl) (by simp) ?_
      refine AllReadyH.cons rfl (fun K hK => ?_) AllReadyH.nil
      go_simp
      refine hK.out _ _ ((Gn.cell_same (Gn.set_keep _ _ _ HG.out.apart.1) 0).trans hHeld) (fun hHeld => ?_)
      clear hK K
      try simp only [Act.put, List.setIfInBounds_toArray, List.set_cons_zero, List.set_cons_succ]
      refine wpAnyH_done (by kernel_rfl) ?_ _
      refine NoPanic.normal ?_
      have hmv := Grow.moved (B := w.heap.size + 1 + 1) (i := 0) (x := x.2) (by have := HG.out; rw [← HM.out] at this; exact this) (fun _ _ => rfl) (by have := HO4.out; rw [HM.out] at this; exact this) (by have := HG4.out; exact this) (by have := HA4.out; exact this.imp id (fun e => by rw [e]; show W.heap.size ≤ (W.alloc _).heap.size; simp))
      rw [← HM.out, HXS.out] at hmv
      refine ⟨?_, fun k hk => hmv.2.1 k (by rcases hk with rfl | rfl; exact hG2; exact hG1), .slice (some ⟨gq, 0, none⟩) (m + 1) cap4, ?_⟩
      · simpa using hmv.1
      · have h9 := hmv.2.2
        rw [List.append_assoc] at h9
        rw [List.map_append]
        exact h9
    refine AllReadyH.cons rfl (fun K hK => ?_) AllReadyH.nil
    · go_simp
      refine hK.out _ _ (cell_al hHeld _) (fun hHeld => ?_)
      clear hK K
      try simp only [Act.put, List.setIfInBounds_toArray, List.set_cons_zero, List.set_cons_succ]
      refine wpAnyH_ready (rs := [4]) (by kernel_rfl) (by simp) ?_
      refine AllReadyH.cons rfl (fun K hK => ?_) AllReadyH.nil
      go_simp
      refine hK.out _ _ (hHeld) (fun hHeld => ?_)
      clear hK K
      try simp only [Act.put, List.setIfInBounds_toArray, List.set_cons_zero, List.set_cons_succ]
      refine wpAnyH_ready (rs := [7]) (by kernel_rfl) (by simp) ?_
      refine AllReadyH.cons rfl (fun K hK => ?_) AllReadyH.nil
      refine step_append_lies _ rfl (.tmp 16) (.tmp 18) 22 rfl lo 3 i0 (.int .i64 0) 1 8 Try.underlying22 hi0 hz0 hz1 hz2 rfl (by decide) (.slice Aa m ca) m (xs.map (Value.int .i64)) (by simp [Act.eval]) (by rw [HM.out]; exact HG.out.row.drew.alloc _) ⟨W.heap.size, 0, none⟩ 1 1 [.int .i64 x.2] (by simp [Act.eval]) rfl (Gn.row_new _ [.int .i64 x.2] _ _ rfl) (by simp [Value.oneCell']) (by decide) (by unfold maxLen; omega) (by omega) (by have := HG.out.low; have := HG.out.below.size; simp; omega) _ rfl ?_
      intro gq cap4 w4 hown4 hgrow4 hat4 hlt4
      have HO4 := Lib.hid hown4
      have HG4 := Lib.hid hgrow4
      have HA4 := Lib.hid hat4
      have hx4 := (hgrow4.block b (by have := HBW.out; simp; omega) (fun e => (HG.out.off b (by rw [← HM.out]; exact e.symm)).1 rfl)).trans ((heap_alloc_old W.drew _ HBW.out).trans HG.out.box)
      have hl4 : w4.cell? ⟨w.heap.size, 0, none⟩ = some (.pointer (some ⟨b, 0, none⟩)) := (Gn.cell_same ((hgrow4.block w.heap.size (by have := HXW.out; simp; omega) (fun e => (HG.out.off _ (by rw [← HM.out]; exact e.symm)).2.1 rfl)).trans (heap_alloc_old W.drew _ HXW.out)) 0).trans cx
      have c4 := cell_of_row _ _ 0 _ _ (0, 0) hx4
      have f9 := Gn.frozen_row hx4 0
      clear hx4 hown4 hgrow4 hat4 hlt4
      refine hK.out _ _ (hl4) (fun hHeld => ?_)
      clear hK K
      try simp only [Act.put, List.setIfInBounds_toArray, List.set_cons_zero, List.set_cons_succ]
      refine wpAnyH_take (i := 8) (v := ?_) rfl (by kernel_rfl) (by kernel_rfl) (by kernel_rfl) (fun _ _ _ h => h) (Or.inl ⟨by rfl, ?_⟩) (by assumption) ?_
      rotate_left
      · intro w hSw
        try dsimp only at hSw
        go_simp
        try with_reducible rfl
      try simp only [Act.put, List.setIfInBounds_toArray, List.set_cons_zero, List.set_cons_succ]
      refine wpAnyH_take (i := 9) (v := ?_) rfl (by kernel_rfl) (by kernel_rfl) (by kernel_rfl) (fun _ _ _ h => h) (Or.inl ⟨by rfl, ?_⟩) (by assumption) ?_
      rotate_left
      · intro w hSw
        try dsimp only at hSw
        go_simp
        try with_reducible rfl
      try simp only [Act.put, List.setIfInBounds_toArray, List.set_cons_zero, List.set_cons_succ]
      refine wpAnyH_ready (rs := [10]) (by kernel_rfl) (by simp) ?_
      refine AllReadyH.cons rfl (fun K hK => ?_) AllReadyH.nil
      go_simp
      refine hK.out _ _ ((Gn.cell_same (Gn.set_keep _ _ _ HG.out.apart.1) 0).trans hHeld) (fun hHeld => ?_)
      clear hK K
      try simp only [Act.put, List.setIfInBounds_toArray, List.set_cons_zero, List.set_cons_succ]
      refine wpAnyH_done (by kernel_rfl) ?_ _
      refine NoPanic.normal ?_
      have hmv := Grow.moved (B := w.heap.size + 1 + 1) (i := 0) (x := x.2) (by have := HG.out; rw [← HM.out] at this; exact this) (fun _ _ => rfl) (by have := HO4.out; rw [HM.out] at this; exact this) (by have := HG4.out; exact this) (by have := HA4.out; exact this.imp id (fun e => by rw [e]; show W.heap.size ≤ (W.alloc _).heap.size; simp))
      rw [← HM.out, HXS.out] at hmv
      refine ⟨?_, fun k hk => hmv.2.1 k (by rcases hk with rfl | rfl; exact hG2; exact hG1), .slice (some ⟨gq, 0, none⟩) (m + 1) cap4, ?_⟩
      · simpa using hmv.1
      · have h9 := hmv.2.2
        rw [List.append_assoc] at h9
        rw [List.map_append]
        exact h9
  case done =>
    rintro D ys W hD rfl ⟨v, hG⟩ hK
    obtain ⟨Av, cv, rfl⟩ := Gn.slice_of hG.row
    have c0 := cell_of_row _ _ 0 _ _ (0, 0) hG.box
    have cx := cell_one hG.lead
    have HG := Lib.hid hG
    have HB0 := Lib.hid hB0
    have HF := Lib.hid hf
    have HG0 := Lib.hid hG0
    obtain ⟨q, hq⟩ : ∃ q, q = (A ++ (upto f bl).map Prod.snd).length := ⟨_, rfl⟩
    rw [← hq] at c0
    have HQ := Lib.hid hq
    clear hG cX cN hB0 hG0 hbell hf hg1 c1 z1 hq hV
    gi_wp2
    refine ⟨by simp, .inl ⟨_, _, rfl, run_takeDeferred hK, ?_⟩⟩
    have e1 : (upto f bl).map Prod.snd = B.reverse := by
      rw [HF.out, HBL.out]
      apply List.ext_getElem
      · simp [upto]
      · intro i h3 h4
        have h5 : i < B.length := by simpa using h4
        simp [upto, List.getElem_reverse, List.getD_eq_getElem?_getD, List.getElem?_eq_getElem (show B.length - 1 - i < B.length by omega)]
    have h9 := HG.out
    rw [e1] at h9
    have hl9 : (A ++ B.reverse).length = A.length + B.length := by simp
    have hq9 : q = A.length + B.length := by rw [HQ.out, e1, hl9]
    refine ⟨_, results_tmp rfl _ _ _, _, rfl, ?_, ?_⟩
    · have := h9.row
      rw [hl9] at this
      rw [hq9]
      exact own_of_block this fun k e => (grownBy_putObj' _ D _).block k (own_base this e).2 (fun e2 => by
        have e2 : k = D := by injection e2
        rcases this.2 with ⟨e3, _⟩ | ⟨g2, cp, cur, e3, _, e4, _⟩
        · rw [e3] at e; cases e
        · rw [e3] at e
          have e : g2 = k := by injection e
          rw [e, e2, hK] at e4
          cases e4)
    · exact (h9.below.grown (grownBy_putObj' _ D _) (Nat.le_trans h9.low.2 h9.below.size) (fun k e => by cases e; simp at hD; omega))
  case stop =>
    rintro D c pre W _ _ h _
    exact h.elim
theorem symall_any (lo b : Nat) (A B : List Int) (va vb : Value) (w : World) (h : SyAt lo b A B va vb w) (hl : A.length + B.length ≤ 1099511627776) (hlo : lo ≤ w.heap.size) :
    Calls Try.prog 52 #[.pointer (some ⟨b, 0, none⟩)] w fun e W' => ∃ v, e = .returned v ∧ W'.ownsRow lo 3 1 v (A.length + B.length) ((A ++ B.reverse).map (Value.int .i64)) ∧ Below lo w W' :=
  (callsIn_wide (n := 3)).1 (all_in 3 (Nat.le_refl _) lo b A B va vb w h hl hlo)
end Go.Proofs.Ytjlppffkacimoaa.Tr
