/-
  Layer 23: a message as the document's.
-/
import Derived.Test.YtfeelmblnkpfdaaDoorMsMm
import Derived.Test.YtfeelmblnkpfdaaDoorLexT
namespace Go.Proofs.YtfeelmblnkpfdaaDoor.Ms
open Go.RowKit
set_option maxRecDepth 100000
set_option linter.unusedSimpArgs false
set_option linter.unusedVariables false
theorem results_cell_agg {P : Program} {fn : Func} {q : Tmp} {uy : TypeId} (h : fn.results = #[.cell q uy]) (tmps : Array Value) (w : World) (k : Nat) (u : TypeId) (ds : Array Value) (fs : Nat × Nat) (e : TypeDesc)
    (hq : tmps.getD q undef = .pointer (some ⟨k, 0, none⟩)) (hk : w.heap[k]? = some (.cells ds u fs)) (hv : P.underlying uy = some e) (he : (match e with | .struct _ | .array _ _ => true | _ => false) = true) (hj : (P.info? uy).map (·.size) = some ds.size) :
    (results fn tmps).run P w = .ok (.agg ds) w := by
  have hq' : tmps[q]?.getD undef = .pointer (some ⟨k, 0, none⟩) := by simpa using hq
  simp [results, h, hq', asAddr, run_loadVar_row w k u uy ds fs e hk hv he hj]
/-- What stands in memory in the loop: the box, the row of entries. -/
structure TSt (V : World) (pb : Nat) (m : Msg) (a : Option Addr) (c0 k : Nat) (D : Option Addr) (c3 : Nat) (v2 : Value) (k2 : Nat) (w : World) : Prop where
  bel : Below V.heap.size V w
  qb : V.heap.size ≤ pb
  boxB : w.heap[pb]? = some (.cells (cellsM (mkE m k) a c0 D c3) 34 (0, 0))
  own2 : w.ownsRow V.heap.size 53 3 v2 k2 (entCells (m.ents.take k2))
section
variable {V w w' : World} {pb : Nat} {m : Msg} {a : Option Addr} {c0 k : Nat} {D : Option Addr} {c3 : Nat} {v2 : Value} {k2 : Nat}
theorem TSt.below (h : TSt V pb m a c0 k D c3 v2 k2 w) (b : Below w.heap.size w w') : TSt V pb m a c0 k D c3 v2 k2 w' :=
  ⟨h.bel.trans (b.mono h.bel.size), h.qb, (b.block _ (Gn.heap_lt h.boxB)).trans h.boxB, own_same h.own2 fun r cs fr hr => b.block _ (Gn.heap_lt hr)⟩
theorem TSt.grow2 (h : TSt V pb m a c0 k D c3 v2 k2 w) (hk : k2 < m.ents.length) {v : Value} (hown : w'.ownsRow V.heap.size 53 3 v (k2 + 1) (entCells (m.ents.take k2) ++ entC m.ents[k2])) (hg : w.grownBy w' v2.ownBlock) : TSt V pb m a c0 k D c3 v (k2 + 1) w' := by
  refine ⟨grown_bel hg h.own2 h.bel, h.qb, (grown_far hg h.own2 _ (by decide) _ _ _ h.boxB).trans h.boxB, ?_⟩
  rw [entCells_succ m.ents hk]
  exact hown
theorem TSt.stored {D2 : Option Addr} {d3 : Nat} (h : TSt V pb m a c0 k D c3 (.slice D2 (k + 1) d3) (k + 1) w) (hk : k < m.ents.length) : TSt V pb m a c0 (k + 1) D2 d3 (.slice D2 (k + 1) d3) (k + 1) (w.setCell ⟨pb, 15, none⟩ (.slice D2 (k + 1) d3)) := by
  have e2 : ∀ r, pb ≠ r → (w.setCell ⟨pb, 15, none⟩ (.slice D2 (k + 1) d3)).heap[r]? = w.heap[r]? := fun r hr => Gn.set_keep _ _ _ hr
  have hl2 : (m.ents.take (k + 1)).length = k + 1 := by rw [List.length_take]; omega
  refine ⟨h.bel.setCell h.qb _, h.qb, ?_, own_same h.own2 fun r cs fr hr => e2 r fun hh => ?_⟩
  · have := Gn.heap_set h.boxB 15 (.slice D2 (k + 1) d3)
    rw [this]
    simp only [cellsM, mkE, hl2]
    simp
  · rw [← hh, h.boxB] at hr
    injection hr with hr
    injection hr with _ h2
    exact absurd h2 (by decide)
end
set_option maxHeartbeats 16000000 in
theorem told_any (m : Msg) (v : Value) (w : World) (hv : MsgAt w m v) (hnn : m.ents.length ≤ 1000) : Calls Tryd.prog 15 #[v] w (fun e w' => ∃ u, e = .returned u ∧ MsgAt w' m u ∧ Below w.heap.size w w') := by
  obtain ⟨j0, hj0, hy0, hy1, hy2⟩ := info_split ref_info
  obtain ⟨a, cap, b, cap2, rfl, hi, he⟩ := hv
  obtain ⟨n, hkn⟩ : ∃ n, n = m.known.length := ⟨_, rfl⟩
  obtain ⟨nn, hke⟩ : ∃ n, n = m.ents.length := ⟨_, rfl⟩
  unfold cellsM
  rw [← hkn] at hi ⊢
  rw [← hke] at he hnn ⊢
  obtain ⟨W1, hW1⟩ : ∃ W, W = (w.alloc (.cells #[.int .i64 m.kind, .int .i64 m.frm, .int .i64 m.born, .slice a n cap, .int .i64 m.view, .int .i64 m.last, .int .i64 m.op, .int .i64 m.commit, .int .i64 m.client, .int .i64 m.number, .int .i64 m.nonce, .string m.text, .bool m.full, .int .i64 m.base, .string m.state, .slice b nn cap2] 31)).alloc (.cells #[.int .i64 0, .int .i64 0, .int .i64 0, .slice none 0 0, .int .i64 0, .int .i64 0, .int .i64 0, .int .i64 0, .int .i64 0, .int .i64 0, .int .i64 0, .string ⟨#[]⟩, .bool false, .int .i64 0, .string ⟨#[]⟩, .slice none 0 0] 34) := ⟨_, rfl⟩
  have hb1 : Below w.heap.size w W1 := by rw [hW1]; exact ((Below.refl _ w).alloc (Nat.le_refl _) _).alloc (by simp) _
  have hx : W1.heap[w.heap.size]? = some (.cells #[.int .i64 m.kind, .int .i64 m.frm, .int .i64 m.born, .slice a n cap, .int .i64 m.view, .int .i64 m.last, .int .i64 m.op, .int .i64 m.commit, .int .i64 m.client, .int .i64 m.number, .int .i64 m.nonce, .string m.text, .bool m.full, .int .i64 m.base, .string m.state, .slice b nn cap2] 31 (0, 0)) := by rw [hW1]; exact (heap_alloc_old _ _ (by simp)).trans (heap_alloc_new w _)
  have hz : W1.heap[w.heap.size + 1]? = some (.cells #[.int .i64 0, .int .i64 0, .int .i64 0, .slice none 0 0, .int .i64 0, .int .i64 0, .int .i64 0, .int .i64 0, .int .i64 0, .int .i64 0, .int .i64 0, .string ⟨#[]⟩, .bool false, .int .i64 0, .string ⟨#[]⟩, .slice none 0 0] 34 (0, 0)) := by
    rw [hW1]; have := heap_alloc_new (w.alloc (.cells #[.int .i64 m.kind, .int .i64 m.frm, .int .i64 m.born, .slice a n cap, .int .i64 m.view, .int .i64 m.last, .int .i64 m.op, .int .i64 m.commit, .int .i64 m.client, .int .i64 m.number, .int .i64 m.nonce, .string m.text, .bool m.full, .int .i64 m.base, .string m.state, .slice b nn cap2] 31)) (.cells #[.int .i64 0, .int .i64 0, .int .i64 0, .slice none 0 0, .int .i64 0, .int .i64 0, .int .i64 0, .int .i64 0, .int .i64 0, .int .i64 0, .int .i64 0, .string ⟨#[]⟩, .bool false, .int .i64 0, .string ⟨#[]⟩, .slice none 0 0] 34); simpa using this
  obtain ⟨r2, hr2⟩ : ∃ q, q = w.heap.size + 1 := ⟨_, rfl⟩
  rw [← hr2] at hz
  obtain ⟨rb, hrb⟩ : ∃ q, q = w.heap.size := ⟨_, rfl⟩
  rw [← hrb] at hx
  obtain ⟨U, hU⟩ : ∃ U, U = W1.alloc (.cells #[.int .i64 m.kind, .int .i64 m.frm, .int .i64 m.born, .slice a n cap, .int .i64 m.view, .int .i64 m.last, .int .i64 m.op, .int .i64 m.commit, .int .i64 m.client, .int .i64 m.number, .int .i64 m.nonce, .string m.text, .bool m.full, .int .i64 m.base, .string m.state, .slice none 0 0] 34) := ⟨_, rfl⟩
  obtain ⟨pb, hpb⟩ : ∃ q, q = W1.heap.size := ⟨_, rfl⟩
  have hbU : Below W1.heap.size W1 U := by rw [hU]; exact (Below.refl _ _).alloc (Nat.le_refl _) _
  have hxU : U.heap[pb]? = some (.cells #[.int .i64 m.kind, .int .i64 m.frm, .int .i64 m.born, .slice a n cap, .int .i64 m.view, .int .i64 m.last, .int .i64 m.op, .int .i64 m.commit, .int .i64 m.client, .int .i64 m.number, .int .i64 m.nonce, .string m.text, .bool m.full, .int .i64 m.base, .string m.state, .slice none 0 0] 34 (0, 0)) := by rw [hU, hpb]; exact heap_alloc_new _ _
  have HL0 := Lib.hid (show TSt W1 pb m a cap 0 none 0 (.slice none 0 0) 0 U from ⟨hbU, Nat.le_of_eq hpb.symm, by rw [hkn] at hxU; exact hxU, ⟨rfl, .inl ⟨rfl, rfl⟩⟩⟩)
  have x0 := cell_of_row _ _ 0 _ _ (0, 0) hx
  have x1 := cell_of_row _ _ 1 _ _ (0, 0) hx
  have x2 := cell_of_row _ _ 2 _ _ (0, 0) hx
  have x3 := cell_of_row _ _ 3 _ _ (0, 0) hx
  have x4 := cell_of_row _ _ 4 _ _ (0, 0) hx
  have x5 := cell_of_row _ _ 5 _ _ (0, 0) hx
  have x6 := cell_of_row _ _ 6 _ _ (0, 0) hx
  have x7 := cell_of_row _ _ 7 _ _ (0, 0) hx
  have x8 := cell_of_row _ _ 8 _ _ (0, 0) hx
  have x9 := cell_of_row _ _ 9 _ _ (0, 0) hx
  have x10 := cell_of_row _ _ 10 _ _ (0, 0) hx
  have x11 := cell_of_row _ _ 11 _ _ (0, 0) hx
  have x12 := cell_of_row _ _ 12 _ _ (0, 0) hx
  have x13 := cell_of_row _ _ 13 _ _ (0, 0) hx
  have x14 := cell_of_row _ _ 14 _ _ (0, 0) hx
  have HI := Lib.hid hi
  have HE := Lib.hid (he.under hb1)
  have HB := Lib.hid hb1
  have HX := Lib.hid hx
  have HZ := Lib.hid hz
  have HW1 := Lib.hid hW1
  have HR2 := Lib.hid hr2
  have HRB := Lib.hid hrb
  have HU := Lib.hid hU
  have HPB := Lib.hid hpb
  have HKN := Lib.hid hkn
  have HKE := Lib.hid hke
  clear hi he hb1 hx hz hW1 hr2 hrb hU hpb hbU hxU hkn hke
  go_enter Tryd.func15, Tryd.ntmps15
  go_upto_region 1 with fail
  rw [← HW1.out, ← HR2.out, ← HRB.out]
  go_upto_region 2 with fail
  rw [← HU.out, ← HPB.out]
  clear x0 x1 x2 x3 x4 x5 x6 x7 x8 x9 x10 x11 x12 x13 x14
  go_wp2_with fail
  go_loopw [4] (fun i wr => ∃ (k : Nat) (D : Option Addr) (c3 : Nat), i = .int .i64 k ∧ k ≤ nn ∧ TSt W1 pb m a cap k D c3 (.slice D k c3) k wr) (fun i _ => nn - (intOf i).toNat)
  case atStart => exact ⟨0, none, 0, rfl, Nat.zero_le _, HL0.out⟩
  case round =>
    obtain ⟨k, D, c3, rfl, hk, hl⟩ := hrel
    have HL := Lib.hid hl
    have x15 := cell_of_row _ _ 15 _ _ (0, 0) ((hl.bel.block _ (Gn.heap_lt HX.out)).trans HX.out)
    by_cases hlt : k < nn
    · have hlt2 : (k : Int) < (nn : Int) := by omega
      obtain ⟨eb, off, rfl, hbb, hd0, hd1, hd2⟩ := (HE.out.under hl.bel).get k hlt
      have HKM := Lib.hid (show k < m.ents.length by rw [← HKE.out]; exact hlt)
      obtain ⟨y0, hy0⟩ : ∃ x, x = (m.ents[k]'HKM.out).client := ⟨_, rfl⟩
      obtain ⟨y1, hy1⟩ : ∃ x, x = (m.ents[k]'HKM.out).number := ⟨_, rfl⟩
      obtain ⟨y2, hy2⟩ : ∃ x, x = (m.ents[k]'HKM.out).text := ⟨_, rfl⟩
      rw [← hy0] at hd0
      rw [← hy1] at hd1
      rw [← hy2] at hd2
      have HY := Lib.hid (show m.ents[k]'HKM.out = ⟨y0, y1, y2⟩ by rw [hy0, hy1, hy2])
      clear hl hy0 hy1 hy2
      go_upto_region 5 with fail
      have HLD := Lib.hid (HL.out.below (Gn.below_drew (Below.refl _ _)))
      have HFF := Lib.hid (fun (w' : World) (b : Below W1.heap.size W1 w') => show (fun w' : World => w'.cell? ⟨rb, 15, none⟩ = some (.slice (some ⟨eb, off, none⟩) nn cap2) ∧ w'.cell? ⟨eb, off + k * 3, none⟩ = some (.int .i64 y0) ∧ w'.cell? ⟨eb, off + k * 3 + 1, none⟩ = some (.int .i64 y1) ∧ w'.cell? ⟨eb, off + k * 3 + 2, none⟩ = some (.string y2)) w' from by
        have h15 := cell_of_row _ _ 15 _ _ (0, 0) ((b.block _ (Gn.heap_lt HX.out)).trans HX.out)
        obtain ⟨eb', off', e, hbb', hd0', hd1', hd2'⟩ := (HE.out.under b).get k hlt
        injection e with e
        injection e with e1 e2
        subst e1 e2
        rw [HY.out] at hd0' hd1' hd2'
        exact ⟨h15, hd0', hd1', hd2'⟩)
      have HGG := Lib.hid (fun (w' : World) (h : TSt W1 pb m a cap k D c3 (.slice D k c3) k w') => show (fun w' : World => w'.cell? ⟨pb, 15, none⟩ = some (.slice D k c3)) w' from by
        have := cell_of_row _ _ 15 _ _ (0, 0) h.boxB
        show w'.cell? ⟨pb, 15, none⟩ = _
        rw [this]
        show some (Value.slice D (mkE m k).ents.length c3) = _
        rw [mkE_len m (Nat.le_of_lt HKM.out)])
      clear hd0 hd1 hd2 x15 hbb
      refine wp_region_noPanic ?_
      refine HeldU.wp_region_until (F := (fun w' : World => w'.cell? ⟨rb, 15, none⟩ = some (.slice (some ⟨eb, off, none⟩) nn cap2) ∧ w'.cell? ⟨eb, off + k * 3, none⟩ = some (.int .i64 y0) ∧ w'.cell? ⟨eb, off + k * 3 + 1, none⟩ = some (.int .i64 y1) ∧ w'.cell? ⟨eb, off + k * 3 + 2, none⟩ = some (.string y2))) (G := (fun w' : World => w'.cell? ⟨pb, 15, none⟩ = some (.slice D k c3))) (k := 10) (by kernel_rfl) (HFF.out _ HLD.out.bel) ?_ (fun hHeld => ?_)
      · exact HGG.out _ HLD.out
      conv in Array.replicate _ false => change #[false, false, false, false, false, false, false, false, false, false, false]
      refine HeldU.wpAnyU_take (i := 0) (v := ?_) rfl (by kernel_rfl) (by kernel_rfl) (by kernel_rfl) (by kernel_rfl) (by rfl) (fun _ _ _ h => h) (Or.inl ⟨by rfl, ?_⟩) (by assumption) ?_
      rotate_left
      · intro w hSw
        try dsimp only at hSw
        go_simp
        try with_reducible rfl
      try simp only [Act.put, List.getElem_toArray, List.getElem_cons_zero, List.getElem_cons_succ, List.setIfInBounds_toArray, List.set_cons_zero, List.set_cons_succ]
      refine HeldU.wpAnyU_early (i := 1) (v := ?_) rfl (by kernel_rfl) (by kernel_rfl) (by kernel_rfl) (by kernel_rfl) (by rfl) (by kernel_rfl) (fun _ _ _ h => h) (Or.inl ⟨by rfl, ?_⟩) (by assumption) ?_
      rotate_left
      · intro w hSw
        have hG := hSw.2
        clear hSw
        try dsimp only at hG
        go_simp
        try with_reducible rfl
      try simp only [Act.put, List.getElem_toArray, List.getElem_cons_zero, List.getElem_cons_succ, List.setIfInBounds_toArray, List.set_cons_zero, List.set_cons_succ]
      refine HeldU.wpAnyU_take (i := 2) (v := ?_) rfl (by kernel_rfl) (by kernel_rfl) (by kernel_rfl) (by kernel_rfl) (by rfl) (fun _ _ _ h => h) (Or.inl ⟨by rfl, ?_⟩) (by assumption) ?_
      rotate_left
      · intro w hSw
        try dsimp only at hSw
        go_simp
        try with_reducible rfl
      try simp only [Act.put, List.getElem_toArray, List.getElem_cons_zero, List.getElem_cons_succ, List.setIfInBounds_toArray, List.set_cons_zero, List.set_cons_succ]
      refine HeldU.wpAnyU_take (i := 3) (v := ?_) rfl (by kernel_rfl) (by kernel_rfl) (by kernel_rfl) (by kernel_rfl) (by rfl) (fun _ _ _ h => h) (Or.inl ⟨by rfl, ?_⟩) (by assumption) ?_
      rotate_left
      · intro w hSw
        try dsimp only at hSw
        go_simp
        try with_reducible rfl
      try simp only [Act.put, List.getElem_toArray, List.getElem_cons_zero, List.getElem_cons_succ, List.setIfInBounds_toArray, List.set_cons_zero, List.set_cons_succ]
      refine HeldU.wpAnyU_take (i := 4) (v := ?_) rfl (by kernel_rfl) (by kernel_rfl) (by kernel_rfl) (by kernel_rfl) (by rfl) (fun _ _ _ h => h) (Or.inl ⟨by rfl, ?_⟩) (by assumption) ?_
      rotate_left
      · intro w hSw
        try dsimp only at hSw
        go_simp
        try with_reducible rfl
      try simp only [Act.put, List.getElem_toArray, List.getElem_cons_zero, List.getElem_cons_succ, List.setIfInBounds_toArray, List.set_cons_zero, List.set_cons_succ]
      refine HeldU.wpAnyU_take (i := 5) (v := ?_) rfl (by kernel_rfl) (by kernel_rfl) (by kernel_rfl) (by kernel_rfl) (by rfl) (fun _ _ _ h => h) (Or.inl ⟨by rfl, ?_⟩) (by assumption) ?_
      rotate_left
      · intro w hSw
        try dsimp only at hSw
        go_simp
        try with_reducible rfl
      try simp only [Act.put, List.getElem_toArray, List.getElem_cons_zero, List.getElem_cons_succ, List.setIfInBounds_toArray, List.set_cons_zero, List.set_cons_succ]
      refine HeldU.wpAnyU_take (i := 6) (v := ?_) rfl (by kernel_rfl) (by kernel_rfl) (by kernel_rfl) (by kernel_rfl) (by rfl) (fun _ _ _ h => h) (Or.inl ⟨by rfl, ?_⟩) (by assumption) ?_
      rotate_left
      · intro w hSw
        try dsimp only at hSw
        go_simp
        try with_reducible rfl
      try simp only [Act.put, List.getElem_toArray, List.getElem_cons_zero, List.getElem_cons_succ, List.setIfInBounds_toArray, List.set_cons_zero, List.set_cons_succ]
      refine HeldU.wpAnyU_ready (rs := [7]) (by kernel_rfl) (by simp) ?_
      refine HeldU.AllReadyU.cons rfl (fun K hK => ?_) HeldU.AllReadyU.nil
      go_simp
      have hab := (Below.refl (wr.drew).heap.size wr.drew).alloc (Nat.le_refl _) (.cells #[.int .i64 y0, .int .i64 y1, .string y2] 53)
      have HN2 := Lib.hid (heap_alloc_new wr.drew (.cells #[.int .i64 y0, .int .i64 y1, .string y2] 53))
      have HL := Lib.hid (HLD.out.below hab)
      clear hab
      refine hK.out _ _ ⟨HFF.out _ HL.out.bel, fun _ => HGG.out _ HL.out⟩ (fun hHeld => ?_)
      clear hK K
      try simp only [Act.put, List.getElem_toArray, List.getElem_cons_zero, List.getElem_cons_succ, List.setIfInBounds_toArray, List.set_cons_zero, List.set_cons_succ]
      refine HeldU.wpAnyU_ready (rs := [8]) (by kernel_rfl) (by simp) ?_
      refine HeldU.AllReadyU.cons rfl (fun K hK => ?_) HeldU.AllReadyU.nil
      refine step_append _ (by rfl) (.tmp 44) (.tmp 50) 32 53 3 (by decide) (by rfl) j0 (.agg #[.int .i64 0, .int .i64 0, .string ⟨#[]⟩]) 32 Tryd.underlying32 hj0 hy0 hy1 hy2 (by rfl) W1.heap.size (.slice D k c3) k _ (by simp [Act.eval]) HL.out.own2 ⟨wr.drew.heap.size, 0, none⟩ 1 (by simp [Act.eval]) (entC ⟨y0, y1, y2⟩) rfl (three_newT _ ⟨y0, y1, y2⟩ HN2.out) (by intro u hu; simp only [entC, List.mem_cons, List.not_mem_nil, or_false] at hu; rcases hu with rfl | rfl | rfl <;> rfl) (by unfold maxLen; omega) (by omega) HL.out.bel.size ?_
      intro v6 w6 ho hg
      obtain ⟨D6, d6, rfl⟩ := Gn.slice_of ho
      rw [← HY.out] at ho
      have HG := Lib.hid (HL.out.grow2 HKM.out ho hg)
      have HG6 := Lib.hid (show w6.cell? ⟨pb, 15, none⟩ = some (.slice D k c3) by have := HGG.out _ HL.out; exact (show w6.cell? ⟨pb, 15, none⟩ = some (Value.slice D (mkE m k).ents.length c3) from cell_of_row _ _ 15 _ _ (0, 0) HG.out.boxB).trans (by rw [mkE_len m (Nat.le_of_lt HKM.out)]))
      clear ho hg
      refine hK.out _ _ ⟨HFF.out _ HG.out.bel, fun _ => HG6.out⟩ (fun hHeld => ?_)
      clear hK K
      try simp only [Act.put, List.getElem_toArray, List.getElem_cons_zero, List.getElem_cons_succ, List.setIfInBounds_toArray, List.set_cons_zero, List.set_cons_succ]
      refine HeldU.wpAnyU_take (i := 9) (v := ?_) rfl (by kernel_rfl) (by kernel_rfl) (by kernel_rfl) (by kernel_rfl) (by rfl) (fun _ _ _ h => h) (Or.inl ⟨by rfl, ?_⟩) (by assumption) ?_
      rotate_left
      · intro w hSw
        try dsimp only at hSw
        go_simp
        try with_reducible rfl
      try simp only [Act.put, List.getElem_toArray, List.getElem_cons_zero, List.getElem_cons_succ, List.setIfInBounds_toArray, List.set_cons_zero, List.set_cons_succ]
      refine HeldU.wpAnyU_ready (rs := [10]) (by kernel_rfl) (by simp) ?_
      refine HeldU.AllReadyU.cons rfl (fun K hK => ?_) HeldU.AllReadyU.nil
      have c0 := HG6.out
      have hfz := Gn.frozen_row HG.out.boxB 15
      go_simp
      clear c0 hfz
      have HS := Lib.hid (HG.out.stored HKM.out)
      refine hK.out _ _ ⟨HFF.out _ HS.out.bel, fun h => Bool.noConfusion (show true = false from h)⟩ (fun hHeld => ?_)
      clear hK K
      try simp only [Act.put, List.getElem_toArray, List.getElem_cons_zero, List.getElem_cons_succ, List.setIfInBounds_toArray, List.set_cons_zero, List.set_cons_succ]
      refine HeldU.wpAnyU_done (by kernel_rfl) ?_ _
      refine NoPanic.normal ?_
      go_wp2_with fail
      go_roundw
      case rel => exact ⟨k + 1, D6, d6, by go_num, by omega, HS.out⟩
      case measure => simp [intOf]; omega
    · have hke : k = nn := by omega
      subst hke
      have HD0 := Lib.hid hl
      clear hl hlt hk HL
      have hmk : mkE m k = m := by rw [HKE.out]; exact mkE_all m
      have hbb := HD0.out.boxB
      rw [hmk] at hbb
      have HLB := Lib.hid (show (loadVar 34 ⟨pb, 0, none⟩).run Tryd.prog wr = .ok (.agg (cellsM m a cap D c3)) wr from run_loadVar_row wr _ _ 34 _ _ _ hbb Tryd.underlying34 rfl (by kernel_rfl))
      have HQ2 := Lib.hid ((HD0.out.bel.block _ (Gn.heap_lt HZ.out)).trans HZ.out)
      clear hbb hmk
      go_upto_region 6 with fail
      clear x15
      apply wp_region_lit
      refine LexT.wpList_val _ (by rfl) (exec_load _ _ 34 _ _ _ _ rfl rfl HLB.out) ?_
      simp only [Act.put, List.getElem_toArray, List.getElem_cons_zero, List.getElem_cons_succ, List.setIfInBounds_toArray, List.set_cons_zero, List.set_cons_succ]
      refine wpList_store16 (by rfl) 34 (.tmp 2) (.tmp 53) (by rfl) r2 (.int .i64 m.kind) (.int .i64 m.frm) (.int .i64 m.born) (.slice a m.known.length cap) (.int .i64 m.view) (.int .i64 m.last) (.int .i64 m.op) (.int .i64 m.commit) (.int .i64 m.client) (.int .i64 m.number) (.int .i64 m.nonce) (.string m.text) (.bool m.full) (.int .i64 m.base) (.string m.state) (.slice D m.ents.length c3) _ _ _ _ _ _ _ _ _ _ _ _ _ _ _ _ _ (by simp [Act.eval]) (by simp [Act.eval]; rfl) HQ2.out (by kernel_rfl) (by simp [Value.oneCell']) ?_
      intro w9 hst hoth hbel
      have HS9 := Lib.hid hst
      have HO9 := Lib.hid hoth
      have HL9 := Lib.hid hbel
      clear hst hoth hbel
      simp only [Act.put]
      go_wp2_with fail
      refine bodyPost_ret (results_cell_agg (P := Tryd.prog) rfl _ _ r2 34 _ (0, 0) _ (by rfl) HS9.out Tryd.underlying34 rfl (by kernel_rfl)) rfl ?_
      have hw2 := HR2.out
      have hlt2 := Gn.heap_lt HZ.out
      have hbw := (HB.out.trans (HD0.out.bel.mono HB.out.size)).trans (HL9.out _ (by omega))
      have ho2 := own_same HD0.out.own2 (w' := w9) fun r cs fr hr => HO9.out r fun hh => by
        rw [← hh, HQ2.out] at hr
        injection hr with hr
        injection hr with _ h2
        exact absurd h2 (by decide)
      rw [HKE.out, List.take_length] at ho2
      have hi := HI.out.under hbw
      rw [HKN.out] at hi
      exact ⟨_, rfl, ⟨a, cap, D, c3, rfl, hi, ents_own_any ho2 rfl⟩, hbw⟩
end Go.Proofs.YtfeelmblnkpfdaaDoor.Ms
