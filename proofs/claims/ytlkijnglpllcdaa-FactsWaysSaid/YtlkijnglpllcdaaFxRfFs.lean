/-
  The walk of the document's First.
-/
import Derived.Test.YtlkijnglpllcdaaFxRfFsM
import Derived.Deep.AppendLies
namespace Go.Proofs.Ytlkijnglpllcdaa.Fx
open Go.RowKit
set_option maxRecDepth 100000
set_option linter.unusedSimpArgs false
set_option linter.unusedVariables false

theorem brinfo : (Try.prog.info? 38).map (fun i => (i.zero, i.size, i.bytes)) = some (some (.slice none 0 0), 1, 24) := by kernel_rfl
/-- What stands below: the grammar's box, who has the empty word, the lengths. -/
structure FsB (W0 : World) (L : List Int) (n bn bs : Nat) (cs : Array Value) (W : World) : Prop where
  box : W.heap[W0.heap.size]? = some (.cells cs 33 (0, 0))
  nul : ∀ i, i < n → W.cell? ⟨bn, i, none⟩ = some (.bool (L.getD i (-1) == 0))
  sh : ∀ i, i < n → W.cell? ⟨bs, i, none⟩ = some (.int .i64 (L.getD i (-1)))
  lts : W0.heap.size < W.heap.size ∧ bn < W.heap.size ∧ bs < W.heap.size
  below : Below W0.heap.size W0 W
theorem FsB.mv {W0 W W' : World} {L : List Int} {n bn bs : Nat} {cs : Array Value} (h : FsB W0 L n bn bs cs W) (b : Below W.heap.size W W') : FsB W0 L n bn bs cs W' := by
  obtain ⟨l1, l2, l3⟩ := h.lts
  have := b.size
  exact ⟨(b.block _ l1).trans h.box, fun i hi => (b.cell (p := ⟨bn, i, none⟩) l2).trans (h.nul i hi), fun i hi => (b.cell (p := ⟨bs, i, none⟩) l3).trans (h.sh i hi), ⟨by omega, by omega, by omega⟩, h.below.trans (b.mono (by omega))⟩
/-- Rows that are being laid. -/
structure FrAt (W1 : World) (m k : Nat) (R : Nat → Nat) (v : Value) (W : World) : Prop where
  row : W.ownsRow W1.heap.size 38 1 v k ((List.range k).map fun i => Value.slice (some ⟨R i, 0, none⟩) m m)
  bits : ∀ i, i < k → W.rowIs (R i) 4 m (fun _ => .bool false)
  far : ∀ i, i < k → W1.heap.size ≤ R i ∧ v.ownBlock ≠ some (R i)
  apart : ∀ i j, i < k → j < k → R i = R j → i = j
  below : Below W1.heap.size W1 W
/-- Rows of truth values. -/
structure FsAt (W1 : World) (m n go : Nat) (R : Nat → Nat) (O : Bits) (W : World) : Prop where
  rows : ∀ i, i < n → W.cell? ⟨go, i, none⟩ = some (.slice (some ⟨R i, 0, none⟩) m m)
  bits : ∀ i, i < n → W.rowIs (R i) 4 m (fun t => .bool (O i t))
  far : ∀ i, i < n → W1.heap.size ≤ R i ∧ go ≠ R i
  apart : ∀ i j, i < n → j < n → R i = R j → i = j
  below : Below W1.heap.size W1 W
theorem FsAt.set {W1 W : World} {m n go : Nat} {R : Nat → Nat} {O : Bits} (h : FsAt W1 m n go R O W) (q t : Nat) (hq : q < n) : FsAt W1 m n go R (upd2 O q t) (W.setCell ⟨R q, t, none⟩ (.bool true)) := by
  refine ⟨fun i hi => (Gn.cell_same (Gn.set_keep W t _ (Ne.symm (h.far q hq).2)) i).trans (h.rows i hi), fun i hi => ?_, h.far, h.apart, h.below.setCell (h.far q hq).1 _⟩
  by_cases e : i = q
  · subst e
    exact ((h.bits i hi).set t (.bool true)).congr fun j _ => by unfold upd2 updN; rw [if_pos rfl]; split <;> rfl
  · have h1 := (h.bits i hi).setOther (a := ⟨R q, t, none⟩) (fun e2 => e (h.apart i q hi hq e2)) (.bool true)
    exact h1.congr fun j _ => by unfold upd2; rw [if_neg e]
/-- One row more: made, put into a slice of one, appended. -/
theorem FrAt.more {W1 W w4 : World} {m k : Nat} {R : Nat → Nat} {v v' : Value} (h : FrAt W1 m k R v W) (o : Obj)
    (ho : w4.ownsRow W1.heap.size 38 1 v' (k + 1) (((List.range k).map fun i => Value.slice (some ⟨R i, 0, none⟩) m m) ++ [.slice (some ⟨W.heap.size, 0, none⟩) m m]))
    (hg : ((W.alloc (.cells (madeCells #[.bool false] m) 4)).alloc o).grownBy w4 v.ownBlock) (hat : ∀ g, v'.ownBlock = some g → v.ownBlock = some g ∨ W.heap.size + 2 ≤ g) : FrAt W1 m (k + 1) (fun i => if i = k then W.heap.size else R i) v' w4 := by
  have hB := h.below.size
  have hvl : ∀ g, v.ownBlock = some g → g < W.heap.size := fun g hg => Gn.own_lt h.row g hg
  have hm := World.rowIs_made W (.bool false) m 4
  refine ⟨?_, fun i hi => ?_, fun i hi => ?_, fun i j hi hj e => ?_, ?_⟩
  · have e : ((List.range (k + 1)).map fun i => Value.slice (some ⟨if i = k then W.heap.size else R i, 0, none⟩) m m) = ((List.range k).map fun i => Value.slice (some ⟨R i, 0, none⟩) m m) ++ [.slice (some ⟨W.heap.size, 0, none⟩) m m] := by
      rw [List.range_succ, List.map_append]
      congr 1
      · refine List.map_congr_left fun i hi => ?_
        rw [if_neg (by have := List.mem_range.1 hi; omega)]
      · simp
    rw [e]; exact ho
  · by_cases e : i = k
    · subst e
      simp only [if_pos]
      exact (hm.alloc o).of_block (hg.block _ (by simp; omega) (fun e => by have := hvl _ e.symm; omega))
    · simp only [if_neg e]
      have hb := h.bits i (by omega)
      exact ((hb.alloc _).alloc o).of_block (hg.block _ (by have := hb.lt; simp; omega) (fun e2 => (h.far i (by omega)).2 e2.symm))
  · by_cases e : i = k
    · subst e
      simp only [if_pos]
      exact ⟨hB, fun e2 => by
        rcases hat _ e2 with h5 | h5
        · have := hvl _ h5; omega
        · omega⟩
    · simp only [if_neg e]
      have hb := h.bits i (by omega)
      exact ⟨(h.far i (by omega)).1, fun e2 => by
        rcases hat _ e2 with h5 | h5
        · exact (h.far i (by omega)).2 h5
        · have := hb.lt; omega⟩
  · by_cases e1 : i = k
    · by_cases e2 : j = k
      · omega
      · simp only [if_pos e1, if_neg e2] at e
        have := (h.bits j (by omega)).lt
        omega
    · by_cases e2 : j = k
      · simp only [if_neg e1, if_pos e2] at e
        have := (h.bits i (by omega)).lt
        omega
      · simp only [if_neg e1, if_neg e2] at e
        exact h.apart i j (by omega) (by omega) e
  · exact ((h.below.alloc hB _).alloc (by simp; omega) _).grown hg (by simp; omega) (fun j hj => Gn.own_block h.row j hj)

set_option maxHeartbeats 16000000 in
theorem fsref_any (g : PG) (hS : Snd g) (P : Nat → Prop) (W : World) (v : Value) (h : PgAt P W g v) :
    Calls Try.prog 17 #[v] W fun e w' => ∃ (go c : Nat) (R : Nat → Nat) (O : Bits), e = .returned (.slice (some ⟨go, 0, none⟩) g.names.length c) ∧ (∀ i, i < g.names.length → w'.cell? ⟨go, i, none⟩ = some (.slice (some ⟨R i, 0, none⟩) g.terms.length g.terms.length) ∧ w'.rowIs (R i) 4 g.terms.length (fun t => .bool (O i t))) ∧ go < w'.heap.size ∧
      (∀ L, Least g L → ∀ i t, i < g.names.length → t < g.terms.length → (O i t = true ↔ Come (goS (aheadL L) g.prods) (goS (aheadL L) g.prods i) (-1 - (t : Int)))) ∧ Below W.heap.size W w' := by
  have h' := h
  obtain ⟨An, At_, Ap, cn, ct, cp, rfl, _, _, hP⟩ := h'.open_
  have hbb : Below W.heap.size W (W.alloc (.cells #[.int .i64 g.start, .int .i64 g.rules, .slice An g.names.length cn, .slice At_ g.terms.length ct, .slice Ap g.prods.length cp] 33)) := (Below.refl _ _).alloc (Nat.le_refl _) _
  have hbx := heap_alloc_new W (.cells #[.int .i64 g.start, .int .i64 g.rules, .slice An g.names.length cn, .slice At_ g.terms.length ct, .slice Ap g.prods.length cp] 33)
  have HK := Lib.hid (fun w (b : Below W.heap.size W w) => (⟨nulR_told g hS P w _ (h.under b), lenR_told g hS P w _ (h.under b)⟩ : _ ∧ _))
  obtain ⟨n, hn⟩ : ∃ n, n = g.names.length := ⟨_, rfl⟩
  obtain ⟨np, hnp⟩ : ∃ np, np = g.prods.length := ⟨_, rfl⟩
  obtain ⟨m, hm⟩ : ∃ m, m = g.terms.length := ⟨_, rfl⟩
  have hn1 : 1 ≤ n := by have := hS.start; omega
  have hn2 : n ≤ 256 := by have := hS.few.1; omega
  have hm2 : m ≤ 256 := by have := hS.few.2.1; omega
  have hnp2 : np ≤ 256 := by have := hS.few.2.2; omega
  rw [← hn, ← hnp, ← hm] at hbx hbb HK
  rw [← hnp] at hP
  rw [← hn, ← hnp, ← hm]
  obtain ⟨st, hst⟩ : ∃ st, st = g.start := ⟨_, rfl⟩
  rw [← hst] at hbx hbb HK ⊢
  obtain ⟨ru, hru⟩ : ∃ ru, ru = g.rules := ⟨_, rfl⟩
  rw [← hru] at hbx hbb HK ⊢
  have HNN := Lib.hid hn
  have HNP := Lib.hid hnp
  have HMT := Lib.hid hm
  have HS := Lib.hid hS
  have HP := Lib.hid hP
  have HBX := Lib.hid hbx
  have HBB := Lib.hid hbb
  have hmk := run_make_row' (P := Try.prog) 38 4 (.bool false) 1 rfl binfo rfl .i64 .i64 m (by omega) (by omega)
  clear h h' hP hbb hbx hS hn hnp hm hst hru
  obtain ⟨i1, hi1, hy0, hy1, hy2⟩ := info_parts brinfo
  go_enter Try.func17, Try.ntmps17
  go_wp2_with fail
  generalize hV : World.alloc W _ = V
  rw [hV] at HBX HBB
  clear hV
  refine Loose.region_loose (fun w => Below V.heap.size V w ∧ w.heap[W.heap.size]? = some (.cells #[.int .i64 st, .int .i64 ru, .slice An n cn, .slice At_ m ct, .slice Ap np cp] 33 (0, 0))) _ (by kernel_rfl) (by kernel_rfl)
    (Loose.stays (ts := [none, some (tNulR g), none, some (tLen g)]) (fun w w' h b => ⟨h.1.trans (b.mono h.1.size), (b.block _ (Gn.heap_lt h.2)).trans h.2⟩) (.none (.some (tNulR_st g) (.none (.some (tLen_st g) .nil)))))
    ⟨(Below.refl _ _).drew, HBX.out⟩ ?_
  refine Loose.reads (.agg #[.int .i64 st, .int .i64 ru, .slice An n cn, .slice At_ m ct, .slice Ap np cp]) rfl rfl ?_ ?_
  · intro w hw
    have y0 := cell_of_row _ _ 0 _ _ (0, 0) hw.2
    have y1 := cell_of_row _ _ 1 _ _ (0, 0) hw.2
    have y2 := cell_of_row _ _ 2 _ _ (0, 0) hw.2
    have y3 := cell_of_row _ _ 3 _ _ (0, 0) hw.2
    have y4 := cell_of_row _ _ 4 _ _ (0, 0) hw.2
    clear hw
    go_simp
  try simp only [Act.put, List.setIfInBounds_toArray, List.set_cons_zero, List.set_cons_succ]
  refine Loose.calls _ 15 #[.agg #[.int .i64 st, .int .i64 ru, .slice An n cn, .slice At_ m ct, .slice Ap np cp]] rfl rfl ?_ (fun w hw => (HK.out w (HBB.out.trans (hw.1.mono HBB.out.size))).1) (fun v3 => ?_)
  · intro w hw
    clear hw
    go_simp
  try simp only [Act.put, List.setIfInBounds_toArray, List.set_cons_zero, List.set_cons_succ]
  refine Loose.reads (.agg #[.int .i64 st, .int .i64 ru, .slice An n cn, .slice At_ m ct, .slice Ap np cp]) rfl rfl ?_ ?_
  · intro w hw
    have y0 := cell_of_row _ _ 0 _ _ (0, 0) hw.2
    have y1 := cell_of_row _ _ 1 _ _ (0, 0) hw.2
    have y2 := cell_of_row _ _ 2 _ _ (0, 0) hw.2
    have y3 := cell_of_row _ _ 3 _ _ (0, 0) hw.2
    have y4 := cell_of_row _ _ 4 _ _ (0, 0) hw.2
    clear hw
    go_simp
  try simp only [Act.put, List.setIfInBounds_toArray, List.set_cons_zero, List.set_cons_succ]
  refine Loose.calls _ 11 #[.agg #[.int .i64 st, .int .i64 ru, .slice An n cn, .slice At_ m ct, .slice Ap np cp]] rfl rfl ?_ (fun w hw => (HK.out w (HBB.out.trans (hw.1.mono HBB.out.size))).2) (fun v4 => ?_)
  · intro w hw
    clear hw
    go_simp
  try simp only [Act.put, List.setIfInBounds_toArray, List.set_cons_zero, List.set_cons_succ]
  refine Loose.reads v3 rfl rfl ?_ ?_
  · intro w hw
    clear hw
    go_simp
  try simp only [Act.put, List.setIfInBounds_toArray, List.set_cons_zero, List.set_cons_succ]
  refine Loose.reads v4 rfl rfl ?_ ?_
  · intro w hw
    clear hw
    go_simp
  try simp only [Act.put, List.setIfInBounds_toArray, List.set_cons_zero, List.set_cons_succ]
  refine Loose.done ?_
  intro w1 hw1 hF
  obtain ⟨⟨_, t1⟩, t2⟩ := hF
  obtain ⟨bn, O1, rfl, r1, hO1⟩ := t1
  obtain ⟨L, hL, t2⟩ := t2
  obtain ⟨hll, hlo⟩ := runs_ok hL.runs
  have hln : L.length = n := by rw [hll, HNN.out]
  obtain ⟨bs, cs2, rfl, hcs, l2, t2⟩ := ints_cells t2 (by omega)
  rw [hln] at hcs t2 ⊢
  rw [← HNN.out] at r1 ⊢
  have HB1 := Lib.hid (show FsB W L n bn bs #[.int .i64 st, .int .i64 ru, .slice An n cn, .slice At_ m ct, .slice Ap np cp] w1 from ⟨hw1.2, fun i hi => by rw [← hO1 L hL i]; exact r1.cell hi, t2, ⟨Gn.heap_lt hw1.2, r1.lt, l2⟩, HBB.out.trans (hw1.1.mono HBB.out.size)⟩)
  have HL := Lib.hid hL
  have HLO := Lib.hid hlo
  have HLN := Lib.hid hln
  have hp1 : PrdsAt P w1 g.prods (.slice Ap np cp) := HP.out.under (HBB.out.trans (hw1.1.mono HBB.out.size))
  have HP1 := Lib.hid hp1
  have HFR0 := Lib.hid (show FrAt w1 m 0 (fun _ => 0) (.slice none 0 0) w1 from ⟨World.ownsRow_nil _ _ _ _, fun i hi => absurd hi (by omega), fun i hi => absurd hi (by omega), fun i j hi => absurd hi (by omega), Below.refl _ _⟩)
  clear hw1 hL hll hlo hln hp1 r1 hO1 t2 l2 HK HBX HBB HP
  go_wp2_with fail
  go_loopw [5, 6] (fun v i wr => ∃ (k : Nat) (R : Nat → Nat), k ≤ n ∧ i = .int .i64 k ∧ FrAt w1 m k R v wr) (fun _ i _ => n - (intOf i).toNat)
  case atStart => exact ⟨0, _, Nat.zero_le _, rfl, HFR0.out⟩
  case round =>
    obtain ⟨k, R, hk, rfl, hA⟩ := hrel
    obtain ⟨Av, cv, rfl⟩ := Gn.slice_of hA.row
    have HA := Lib.hid hA
    have hbx := (HB1.out.mv hA.below).box
    have y2 := cell_of_row _ _ 2 _ _ (0, 0) hbx
    have y3 := cell_of_row _ _ 3 _ _ (0, 0) hbx
    clear hA hbx
    by_cases hlt : k < n
    · have hlt2 : (k : Int) < (n : Int) := by omega
      have HOWN := Lib.hid ((HA.out.row.alloc (.cells (madeCells #[.bool false] m) 4)).alloc (.cells #[.slice (some ⟨wr.heap.size, 0, none⟩) m m] 38))
      have HNEW := Lib.hid (Gn.row_new (wr.alloc (.cells (madeCells #[.bool false] m) 4)) [.slice (some ⟨wr.heap.size, 0, none⟩) m m] 38 (wr.heap.size + 1) (by simp))
      have hwsz := HA.out.below.size
      go_wp2_with (at_builtin; refine wpList_append_lies _ rfl _ _ 44 rfl w1.heap.size 38 i1 _ 1 24 Try.underlying44 hi1 hy0 hy1 hy2 rfl (by decide) (.slice Av k cv) k _ rfl HOWN.out ⟨wr.heap.size + 1, 0, none⟩ 1 1 [.slice (some ⟨wr.heap.size, 0, none⟩) m m] rfl rfl HNEW.out (by simp [Value.oneCell']) (by decide) (by unfold maxLen; omega) (by omega) (by simp; omega) _ rfl ?_; intro gq cap' w4 hown4 hgrow4 hat4 hlt4; have H4 := Lib.hid (HA.out.more _ hown4 hgrow4 (fun g hg => by have hg : gq = g := (by injection hg); subst hg; rcases hat4 with h7 | h7; exact .inl h7; exact .inr (by simp at h7; omega))); clear hown4 hgrow4 hat4 hlt4)
      go_roundw
      case rel => exact ⟨k + 1, _, by omega, by simp, H4.out⟩
      case measure => simp [intOf]; omega
    · have hke : n = k := by omega
      subst hke
      have hlt2 : ¬ ((n : Nat) : Int) < ((n : Nat) : Int) := by omega
      obtain ⟨go, hgo⟩ : ∃ go, Av = some ⟨go, 0, none⟩ := by
        rcases HA.out.row.2 with ⟨_, h2⟩ | ⟨g2, cp2, cur, h2, _⟩
        · omega
        · injection h2 with h2; exact ⟨g2, h2⟩
      subst hgo
      have HFS0 := Lib.hid (show FsAt w1 m n go R (fun _ _ => false) wr from ⟨fun i hi => by
          have := HA.out.row.cells (g := go) rfl i (.slice (some ⟨R i, 0, none⟩) m m) (by simp [hi])
          rwa [Gn.add_row] at this, HA.out.bits, fun i hi => ⟨(HA.out.far i hi).1, fun e => (HA.out.far i hi).2 (by simp [Value.ownBlock, e])⟩, HA.out.apart, HA.out.below⟩)
      have HGL := Lib.hid (show go < wr.heap.size from Gn.own_lt HA.out.row go rfl)
      go_wp2_with fail
      clear y2 y3
      go_loopw [7] (fun v wr => ∃ (O : Bits) (t : Bool), v = .bool t ∧ FsAt w1 m n go R O wr ∧ go < wr.heap.size ∧ FsOk (goS (aheadL L) g.prods) O ∧ (t = false → ∀ p ∈ g.prods, FsFx L m O p)) (fun v wr => ffWs wr R n + flg v)
      case atStart => exact ⟨_, true, rfl, HFS0.out, HGL.out, fun i t h => (by cases h), fun h => by cases h⟩
      case round =>
        obtain ⟨O0, t, rfl, hL, hgl, hok, hfx⟩ := hrel
        cases t
        · have HF := Lib.hid (hfx rfl)
          have HFS := Lib.hid hL
          have HOK := Lib.hid hok
          have HGL2 := Lib.hid hgl
          clear hL hfx hok hgl
          go_wp2
          go_ret
          exact ⟨go, cv, R, O0, rfl, fun i hi => ⟨HFS.out.rows i hi, HFS.out.bits i hi⟩, HGL2.out, fun L2 hL2 i t _ ht => by
            rw [least_unique hL2 HL.out]
            exact fs_is HOK.out HF.out i t ht, HB1.out.below.trans (HFS.out.below.mono (by have := HB1.out.lts; omega))⟩
        · have HMS := Lib.hid (ffWs_is n hL.bits)
          have HFS := Lib.hid hL
          have HOK := Lib.hid hok
          have HGL2 := Lib.hid hgl
          clear hL hfx hok hgl HFS0 HGL
          obtain ⟨wo, rfl⟩ : ∃ wo : World, wo = wr := ⟨_, rfl⟩
          go_wp2_with fail
          go_loopw [7, 8] (fun v i wq => ∃ (O : Bits) (t : Bool) (k : Nat), v = .bool t ∧ k ≤ np ∧ i = .int .i64 k ∧ FsAt w1 m n go R O wq ∧ go < wq.heap.size ∧ FsOk (goS (aheadL L) g.prods) O ∧ PassM (FsFx L m) g.prods m n O0 O k t) (fun _ i _ => np - (intOf i).toNat)
          case atStart => exact ⟨O0, false, 0, rfl, Nat.zero_le _, rfl, HFS.out, HGL2.out, HOK.out, fun _ => ⟨rfl, fun j _ hj => absurd hj (by omega)⟩, fun h => by cases h⟩
          case round =>
            obtain ⟨O, t, k, rfl, hk, rfl, hA, hgl, hok, hpass⟩ := hrel
            have hbs := HB1.out.mv hA.below
            have c4 : wr.cell? ⟨W.heap.size, 4, none⟩ = some (.slice Ap np cp) := cell_of_row _ _ 4 _ _ (0, 0) hbs.box
            by_cases hlt : k < np
            · have h1 : k < g.prods.length := by rw [← HNP.out]; exact hlt
              obtain ⟨A', cap', bb, f, e1, _, e3, e4⟩ := HP1.out
              injection e1 with e1 e6 e5
              subst e1
              subst e5
              obtain ⟨eA, hr, _⟩ := e3 (by omega)
              subst eA
              obtain ⟨x0, x1, xi⟩ := e4 k h1
              have hmem : g.prods[k] ∈ g.prods := List.getElem_mem h1
              obtain ⟨lf0, lf1⟩ := HS.out.left _ hmem
              have hsh := HS.out.short _ hmem
              have hkn := HS.out.known _ hmem
              rw [← HNN.out] at lf1 hkn
              obtain ⟨p, hp⟩ : ∃ p, p = g.prods[k] := ⟨_, rfl⟩
              have HPS := Lib.hid hpass
              have HPE := Lib.hid hp
              rw [← hp] at x0 xi hmem lf0 lf1 hsh hkn
              have X0 := (hA.below.cell (p := ⟨bb, k * 2, none⟩) hr).trans x0
              have X1 := (hA.below.cell (p := ⟨bb, k * 2 + 1, none⟩) hr).trans x1
              obtain ⟨q, hq⟩ : ∃ q : Nat, p.left = (q : Int) := ⟨p.left.toNat, by omega⟩
              have hqn : q < n := by omega
              have hqi2 : (q : Int) < (n : Int) := by omega
              rw [hq] at X0
              obtain ⟨Ax, cx, bx, hx, _, hx3, hx4⟩ := xi
              rw [hx] at X1
              obtain ⟨ml, hm⟩ : ∃ ml, ml = p.right.length := ⟨_, rfl⟩
              rw [← hm] at X1 hx3 hsh
              have HX3 := Lib.hid hx3
              have HX4 := Lib.hid hx4
              have HM := Lib.hid hm
              have HKN := Lib.hid hkn
              have HMEM := Lib.hid hmem
              have HQ := Lib.hid hq
              have HA := Lib.hid hA
              have HGL3 := Lib.hid hgl
              have HOK3 := Lib.hid hok
              have HBS := Lib.hid hbs
              have hlt2 : (k : Int) < (np : Int) := by omega
              have HLB := Lib.hid (fun i (hi : i < n) => (show -1 ≤ L.getD i (-1) by
                rw [List.getD_eq_getElem?_getD, List.getElem?_eq_getElem (by rw [HLN.out]; exact hi)]
                exact (HLO.out _ (List.getElem_mem _)).1))
              clear e6 e3 e4 hx hx3 hx4 x0 x1 hp hmem hkn hm hq lf0 lf1 hA hpass hgl hok hbs
              obtain ⟨wo2, rfl⟩ : ∃ wo2 : World, wo2 = wr := ⟨_, rfl⟩
              go_wp2_with fail
              go_loopw [11, 12] (fun ok kk w5 => ∃ j : Nat, j ≤ ml ∧ kk = .int .i64 j ∧ ok = .bool (okB L (p.right.take j)) ∧ w5 = wo2) (fun _ kk _ => ml - (intOf kk).toNat)
              case atStart => exact ⟨0, Nat.zero_le _, rfl, rfl, rfl⟩
              case round =>
                obtain ⟨j, hj, rfl, rfl, rfl⟩ := hrel
                obtain ⟨aj, haj⟩ : ∃ aj, aj = okB L (p.right.take j) := ⟨_, rfl⟩
                rw [← haj]
                have HAJ := Lib.hid haj
                clear haj
                by_cases hjm : j < ml
                · have hjm2 : (j : Int) < (ml : Int) := by omega
                  have hjl : j < p.right.length := by rw [← HM.out]; exact hjm
                  obtain ⟨eX, hxb, _⟩ := HX3.out (by omega)
                  subst eX
                  have q2 := (HA.out.below.cell (p := ⟨bx, j, none⟩) hxb).trans (HX4.out j hjl)
                  have hks := HKN.out _ (List.getElem_mem hjl)
                  have HTK := Lib.hid (show p.right.take (j + 1) = p.right.take j ++ [p.right[j]] from List.take_succ_eq_append_getElem hjl)
                  obtain ⟨s, hs⟩ : ∃ s, s = p.right[j] := ⟨_, rfl⟩
                  rw [← hs] at q2 hks HTK
                  have HAS := Lib.hid (show okB L (p.right.take (j + 1)) = (aj && (decide (s < 0) || (L.getD s.toNat (-1) != -1))) by rw [HTK.out, okB_snoc, ← HAJ.out])
                  clear hs
                  cases aj
                  · go_wp2_with fail
                    go_roundw
                    case rel => exact ⟨j + 1, by omega, by simp, by rw [HAS.out]; rfl, trivial⟩
                    case measure => simp [intOf]; omega
                  · by_cases hs0 : s < 0
                    · have HF := Lib.hid (show okB L (p.right.take (j + 1)) = true by rw [HAS.out, decide_eq_true hs0]; rfl)
                      go_wp2_with fail
                      go_roundw
                      case rel => exact ⟨j + 1, by omega, by simp, by rw [HF.out], trivial⟩
                      case measure => simp [intOf]; omega
                    · obtain ⟨t2, ht⟩ : ∃ t2 : Nat, s = (t2 : Int) := ⟨s.toNat, by omega⟩
                      subst ht
                      have htn : t2 < n := by omega
                      have htn2 : (t2 : Int) < (n : Int) := by omega
                      have yt := HBS.out.sh t2 htn
                      have htr := HLB.out t2 htn
                      have HF := Lib.hid (show okB L (p.right.take (j + 1)) = decide (L.getD t2 (-1) ≥ 0) by
                        rw [HAS.out, decide_eq_false hs0, show ((t2 : Int).toNat) = t2 from rfl]
                        by_cases e : L.getD t2 (-1) = -1
                        · rw [e]; rfl
                        · rw [bne_iff_ne.2 e, decide_eq_true (by omega)]; rfl)
                      obtain ⟨x, hx⟩ : ∃ x, x = L.getD t2 (-1) := ⟨_, rfl⟩
                      rw [← hx] at yt htr HF
                      clear hx hs0
                      have hs1 : ¬ (t2 : Int) < 0 := by omega
                      by_cases hx0 : x ≥ 0
                      · rw [decide_eq_true hx0] at HF
                        go_wp2_with fail
                        go_roundw
                        case rel => exact ⟨j + 1, by omega, by simp, by rw [HF.out], trivial⟩
                        case measure => simp [intOf]; omega
                      · rw [decide_eq_false hx0] at HF
                        go_wp2_with fail
                        go_roundw
                        case rel => exact ⟨j + 1, by omega, by simp, by rw [HF.out], trivial⟩
                        case measure => simp [intOf]; omega
                · have hje : ml = j := by omega
                  subst hje
                  have hjm2 : ¬ ((ml : Nat) : Int) < ((ml : Nat) : Int) := by omega
                  have hall : okB L p.right = aj := by rw [HAJ.out, HM.out, List.take_length]
                  have HALL := Lib.hid hall
                  have HZ0 := Lib.hid (show (aj = true → nulB L (p.right.take 0) = true ∧ okB L p.right = true) ∧ (aj = false → aheadL L p.right = p.right.take 0) from ⟨fun h => ⟨rfl, hall.trans h⟩, fun h => by
                    unfold aheadL
                    rw [if_pos, List.take_zero]
                    exact Classical.byContradiction fun h2 => by rw [(row_ok HLO.out p.right).2 h2] at hall; rw [h] at hall; cases hall⟩)
                  clear hall
                  go_wp2_with fail
                  go_loopw [7, 11, 13] (fun v ok kk wq => ∃ (O : Bits) (t z : Bool) (j : Nat), v = .bool t ∧ ok = .bool z ∧ j ≤ ml ∧ kk = .int .i64 j ∧ FsAt w1 m n go R O wq ∧ go < wq.heap.size ∧ FsOk (goS (aheadL L) g.prods) O ∧ PassM (FsFx L m) g.prods m n O0 O k t ∧ ((z = true → nulB L (p.right.take j) = true ∧ okB L p.right = true) ∧ (z = false → aheadL L p.right = p.right.take j)) ∧ (t = false → ∀ x ∈ p.right.take j, ∀ u, u < m → hitB O x u = true → O q u = true)) (fun _ _ kk _ => ml - (intOf kk).toNat)
                  case atStart => exact ⟨O, t, aj, 0, rfl, rfl, Nat.zero_le _, rfl, HA.out, HGL3.out, HOK3.out, HPS.out, HZ0.out, fun _ x hx => by simp at hx⟩
                  case round =>
                    obtain ⟨O, t, z, j, rfl, rfl, hj, rfl, hA, hgl, hok, hps, hz, hin⟩ := hrel
                    have HA := Lib.hid hA
                    have HGL := Lib.hid hgl
                    have HOK := Lib.hid hok
                    have HPS := Lib.hid hps
                    have HZ := Lib.hid hz
                    have HIN := Lib.hid hin
                    clear hA hgl hok hps hz hin
                    by_cases hjm : j < ml
                    · have hjm2 : (j : Int) < (ml : Int) := by omega
                      cases z
                      · have hae : aheadL L p.right = p.right.take j := HZ.out.2 rfl
                        have HP2 := Lib.hid (HPS.out.same (h := h1) (fun ht => show FsFx L m O g.prods[k] from by
                          rw [← HPE.out]
                          intro s hs u hu hh
                          rw [HQ.out]
                          rw [hae] at hs
                          exact HIN.out ht s hs u hu hh))
                        clear hae
                        go_wp2_with fail
                        go_roundw
                        case rel => exact ⟨O, t, k + 1, rfl, by omega, by simp, HA.out, HGL.out, HOK.out, HP2.out⟩
                        case measure => simp [intOf]; omega
                      · have HNU := Lib.hid (HZ.out.1 rfl).1
                        have HOB := Lib.hid (HZ.out.1 rfl).2
                        have hjl : j < p.right.length := by rw [← HM.out]; exact hjm
                        obtain ⟨eX, hxb, _⟩ := HX3.out (by omega)
                        subst eX
                        have hks := HKN.out _ (List.getElem_mem hjl)
                        have HC := Lib.hid (HX4.out j hjl)
                        have HTK := Lib.hid (show p.right.take (j + 1) = p.right.take j ++ [p.right[j]] from List.take_succ_eq_append_getElem hjl)
                        have HSPL := Lib.hid (show p.right = p.right.take j ++ p.right[j] :: p.right.drop (j + 1) by rw [← List.drop_eq_getElem_cons hjl, List.take_append_drop])
                        have HEA := Lib.hid (show aheadL L p.right = aheadGo L p.right by
                          unfold aheadL
                          rw [if_neg ((row_ok HLO.out p.right).1 HOB.out)])
                        have HOKS := Lib.hid (List.all_eq_true.1 (show p.right.all (fun s => decide (s < 0) || (L.getD s.toNat (-1) != -1)) = true from HOB.out) _ (List.getElem_mem hjl))
                        obtain ⟨s, hs⟩ : ∃ s, s = p.right[j] := ⟨_, rfl⟩
                        rw [← hs] at HC hks HTK HSPL HOKS
                        have HSIN := Lib.hid (show s ∈ goS (aheadL L) g.prods q from goS_in HMEM.out HQ.out (by
                          rw [HEA.out, HSPL.out, ahead_pre _ _ HNU.out]
                          refine List.mem_append_right _ ?_
                          rw [aheadGo]
                          split <;> simp))
                        clear hs
                        have q2 := (HA.out.below.cell (p := ⟨bx, j, none⟩) hxb).trans HC.out
                        have y3 := cell_of_row _ _ 3 _ _ (0, 0) (HB1.out.mv HA.out.below).box
                        go_wp2_with fail
                        go_loopw [7, 14] (fun v i wq => ∃ (O : Bits) (t : Bool) (c : Nat), v = .bool t ∧ c ≤ m ∧ i = .int .i64 c ∧ FsAt w1 m n go R O wq ∧ go < wq.heap.size ∧ FsOk (goS (aheadL L) g.prods) O ∧ PassM (FsFx L m) g.prods m n O0 O k t ∧ (t = false → ∀ x ∈ p.right.take j, ∀ u, u < m → hitB O x u = true → O q u = true) ∧ (t = false → ∀ u, u < c → hitB O s u = true → O q u = true)) (fun _ i _ => m - (intOf i).toNat)
                        case atStart => exact ⟨O, t, 0, rfl, Nat.zero_le _, rfl, HA.out, HGL.out, HOK.out, HPS.out, HIN.out, fun _ u hu => absurd hu (by omega)⟩
                        case round =>
                          clear q2 y3 HA HGL HOK HPS HIN
                          obtain ⟨O, t, c, rfl, hc0, rfl, hA, hgl, hok, hps, hin, hin2⟩ := hrel
                          have HA := Lib.hid hA
                          have HGL := Lib.hid hgl
                          have HOK := Lib.hid hok
                          have HPS := Lib.hid hps
                          have HIN := Lib.hid hin
                          have HIN2 := Lib.hid hin2
                          clear hA hgl hok hps hin hin2
                          have q2 := (HA.out.below.cell (p := ⟨bx, j, none⟩) hxb).trans HC.out
                          have hbs := HB1.out.mv HA.out.below
                          have HBS := Lib.hid hbs
                          have y3 := cell_of_row _ _ 3 _ _ (0, 0) hbs.box
                          clear hbs
                          by_cases hcm : c < m
                          · have hcm2 : (c : Int) < (m : Int) := by omega
                            have hw1 : IntKind.i64.wrap (-1 - (c : Int)) = -1 - (c : Int) := IntWalk.i64_in _ (by omega)
                            have yq := HA.out.rows q hqn
                            have yqc := (HA.out.bits q hqn).cell hcm
                            have yf := (HA.out.bits q hqn).frozen c
                            have HNX := Lib.hid (fun (h : t = false → hitB O s c = true → O q c = true) => (show t = false → ∀ u, u < c + 1 → hitB O s u = true → O q u = true from fun ht u hu hh => by
                              by_cases e : u = c
                              · subst e; exact h ht hh
                              · exact HIN2.out ht u (by omega) hh))
                            by_cases hsc : s = -1 - (c : Int)
                            · have e1 : (s == -1 - (c : Int)) = true := by rw [beq_iff_eq]; exact hsc
                              have HHIT := Lib.hid (show hitB O s c = true by unfold hitB; rw [decide_eq_true hsc]; rfl)
                              clear hsc
                              cases hoc : O q c
                              · rw [hoc] at yqc
                                have HA2 := Lib.hid (HA.out.set q c hqn)
                                have HGL2 := Lib.hid (show go < (wr.setCell ⟨R q, c, none⟩ (.bool true)).heap.size by have := HGL.out; simpa [World.setCell] using this)
                                have HOK2 := Lib.hid (fs_step HOK.out HSIN.out HHIT.out)
                                have HP2 := Lib.hid (HPS.out.less (k' := k) (cnt2_upd hoc hcm n hqn))
                                clear hoc
                                go_wp2_with fail
                                go_roundw
                                case rel => exact ⟨_, true, c + 1, rfl, by omega, by simp, HA2.out, HGL2.out, HOK2.out, HP2.out, fun h => (by cases h), fun h => (by cases h)⟩
                                case measure => simp [intOf]; omega
                              · rw [hoc] at yqc
                                have HI2 := Lib.hid (HNX.out (fun _ _ => hoc))
                                clear hoc
                                go_wp2_with fail
                                go_roundw
                                case rel => exact ⟨O, t, c + 1, rfl, by omega, by simp, HA.out, HGL.out, HOK.out, HPS.out, HIN.out, HI2.out⟩
                                case measure => simp [intOf]; omega
                            · have e1 : (s == -1 - (c : Int)) = false := by rw [beq_eq_false_iff_ne]; exact hsc
                              by_cases hs0 : s < 0
                              · have hs1 : ¬ s ≥ 0 := by omega
                                have HHIT := Lib.hid (show hitB O s c = false by unfold hitB; rw [decide_eq_false hsc, decide_eq_false (by omega)]; rfl)
                                clear hsc
                                have HI2 := Lib.hid (HNX.out (fun _ hh => by rw [HHIT.out] at hh; cases hh))
                                go_wp2_with fail
                                go_roundw
                                case rel => exact ⟨O, t, c + 1, rfl, by omega, by simp, HA.out, HGL.out, HOK.out, HPS.out, HIN.out, HI2.out⟩
                                case measure => simp [intOf]; omega
                              · obtain ⟨a, ha⟩ : ∃ a : Nat, s = (a : Int) := ⟨s.toNat, by omega⟩
                                subst ha
                                have han : a < n := by omega
                                have han2 : (a : Int) < (n : Int) := by omega
                                have hs1 : (a : Int) ≥ 0 := by omega
                                have ya := HA.out.rows a han
                                have yac := (HA.out.bits a han).cell hcm
                                have hh : hitB O (a : Int) c = O a c := by
                                  unfold hitB
                                  rw [decide_eq_false hsc, decide_eq_true (by omega), show ((a : Int).toNat) = a from rfl]
                                  simp
                                obtain ⟨x, hx⟩ : ∃ x, x = O a c := ⟨_, rfl⟩
                                rw [← hx] at yac hh
                                have HHIT := Lib.hid hh
                                clear hsc hs0 hx hh
                                cases x
                                · have HI2 := Lib.hid (HNX.out (fun _ hh => by rw [HHIT.out] at hh; cases hh))
                                  go_wp2_with fail
                                  go_roundw
                                  case rel => exact ⟨O, t, c + 1, rfl, by omega, by simp, HA.out, HGL.out, HOK.out, HPS.out, HIN.out, HI2.out⟩
                                  case measure => simp [intOf]; omega
                                · cases hoc : O q c
                                  · rw [hoc] at yqc
                                    have HA2 := Lib.hid (HA.out.set q c hqn)
                                    have HGL2 := Lib.hid (show go < (wr.setCell ⟨R q, c, none⟩ (.bool true)).heap.size by have := HGL.out; simpa [World.setCell] using this)
                                    have HOK2 := Lib.hid (fs_step HOK.out HSIN.out HHIT.out)
                                    have HP2 := Lib.hid (HPS.out.less (k' := k) (cnt2_upd hoc hcm n hqn))
                                    clear hoc
                                    go_wp2_with fail
                                    go_roundw
                                    case rel => exact ⟨_, true, c + 1, rfl, by omega, by simp, HA2.out, HGL2.out, HOK2.out, HP2.out, fun h => (by cases h), fun h => (by cases h)⟩
                                    case measure => simp [intOf]; omega
                                  · rw [hoc] at yqc
                                    have HI2 := Lib.hid (HNX.out (fun _ _ => hoc))
                                    clear hoc
                                    go_wp2_with fail
                                    go_roundw
                                    case rel => exact ⟨O, t, c + 1, rfl, by omega, by simp, HA.out, HGL.out, HOK.out, HPS.out, HIN.out, HI2.out⟩
                                    case measure => simp [intOf]; omega
                          · have hce : m = c := by omega
                            subst hce
                            have hcm2 : ¬ ((m : Nat) : Int) < ((m : Nat) : Int) := by omega
                            have HIN3 := Lib.hid (show t = false → ∀ x ∈ p.right.take (j + 1), ∀ u, u < m → hitB O x u = true → O q u = true from fun ht x hx u hu hh => by
                              rw [HTK.out] at hx
                              rcases List.mem_append.1 hx with hx | hx
                              · exact HIN.out ht x hx u hu hh
                              · rw [List.mem_singleton.1 hx] at hh
                                exact HIN2.out ht u hu hh)
                            have HSTOP := Lib.hid (fun (h : 0 < shOf L s) => (show aheadL L p.right = p.right.take (j + 1) by
                              have h9 := ahead_stop (p.right.take j) (p.right.drop (j + 1)) s HNU.out h
                              rw [← HSPL.out] at h9
                              rw [HEA.out, HTK.out]
                              exact h9))
                            by_cases hs0 : s < 0
                            · have hs1 : ¬ s ≥ 0 := by omega
                              have HZ2 := Lib.hid (show (false = true → nulB L (p.right.take (j + 1)) = true ∧ okB L p.right = true) ∧ (false = false → aheadL L p.right = p.right.take (j + 1)) from ⟨fun h => (by cases h), fun _ => HSTOP.out (by unfold shOf; rw [if_pos hs0]; decide)⟩)
                              go_wp2_with fail
                              go_roundw
                              case rel => exact ⟨O, t, false, j + 1, rfl, rfl, by omega, by simp, HA.out, HGL.out, HOK.out, HPS.out, HZ2.out, HIN3.out⟩
                              case measure => simp [intOf]; omega
                            · obtain ⟨a, ha⟩ : ∃ a : Nat, s = (a : Int) := ⟨s.toNat, by omega⟩
                              subst ha
                              have han : a < n := by omega
                              have han2 : (a : Int) < (n : Int) := by omega
                              have hs1 : (a : Int) ≥ 0 := by omega
                              have yn := HBS.out.nul a han
                              have hlb := HLB.out a han
                              have hne : L.getD a (-1) ≠ -1 := by
                                have := HOKS.out
                                rw [decide_eq_false hs0, Bool.false_or, bne_iff_ne] at this
                                exact this
                              have HZ2 := Lib.hid (show ((L.getD a (-1) == 0) = true → nulB L (p.right.take (j + 1)) = true ∧ okB L p.right = true) ∧ ((L.getD a (-1) == 0) = false → aheadL L p.right = p.right.take (j + 1)) from ⟨fun h => ⟨by
                                rw [HTK.out, nulB_snoc, HNU.out, decide_eq_true (by omega), show ((a : Int).toNat) = a from rfl, h]; rfl, HOB.out⟩, fun h => HSTOP.out (by
                                unfold shOf
                                rw [if_neg hs0, show ((a : Int).toNat) = a from rfl]
                                rw [beq_eq_false_iff_ne] at h
                                omega)⟩)
                              obtain ⟨x, hx⟩ : ∃ x, x = (L.getD a (-1) == 0) := ⟨_, rfl⟩
                              rw [← hx] at yn HZ2
                              clear hx hne hlb hs0
                              go_wp2_with fail
                              go_roundw
                              case rel => exact ⟨O, t, x, j + 1, rfl, rfl, by omega, by simp, HA.out, HGL.out, HOK.out, HPS.out, HZ2.out, HIN3.out⟩
                              case measure => simp [intOf]; omega
                    · have hje : ml = j := by omega
                      subst hje
                      have hjm2 : ¬ ((ml : Nat) : Int) < ((ml : Nat) : Int) := by omega
                      have hae : aheadL L p.right = p.right.take ml := by
                        cases z
                        · exact HZ.out.2 rfl
                        · obtain ⟨h5, h6⟩ := HZ.out.1 rfl
                          rw [HM.out, List.take_length] at h5 ⊢
                          unfold aheadL
                          rw [if_neg ((row_ok HLO.out p.right).1 h6), ahead_all h5]
                      have HP2 := Lib.hid (HPS.out.same (h := h1) (fun ht => show FsFx L m O g.prods[k] from by
                        rw [← HPE.out]
                        intro s hs u hu hh
                        rw [HQ.out]
                        rw [hae] at hs
                        exact HIN.out ht s hs u hu hh))
                      clear hae
                      go_wp2_with fail
                      go_roundw
                      case rel => exact ⟨O, t, k + 1, rfl, by omega, by simp, HA.out, HGL.out, HOK.out, HP2.out⟩
                      case measure => simp [intOf]; omega
            · have hke : np = k := by omega
              subst hke
              have hlt2 : ¬ ((np : Nat) : Int) < ((np : Nat) : Int) := by omega
              have HPS := Lib.hid hpass
              have HA := Lib.hid hA
              have HGL3 := Lib.hid hgl
              have HOK3 := Lib.hid hok
              have HM2 := Lib.hid (ffWs_is n hA.bits)
              clear hpass hA hgl hok hbs
              go_wp2_with fail
              go_roundw
              case rel => exact ⟨O, t, rfl, HA.out, HGL3.out, HOK3.out, fun ht p hp => by
                obtain ⟨e, h2⟩ := HPS.out.1 ht
                obtain ⟨i, hi, rfl⟩ := List.getElem_of_mem hp
                rw [e]
                exact h2 i hi (by rw [HNP.out]; exact hi)⟩
              case measure =>
                rw [HMS.out, HM2.out]
                cases t
                · have := (HPS.out.1 rfl).1
                  rw [this]; simp [flg]
                · have := HPS.out.2 rfl
                  simp [flg]; omega
end Go.Proofs.Ytlkijnglpllcdaa.Fx
