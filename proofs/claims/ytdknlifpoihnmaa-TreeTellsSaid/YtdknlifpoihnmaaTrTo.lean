/-
  Layer 14: rows of the document's trees; the law's told.
-/
import Derived.Test.YtdknlifpoihnmaaTrSame
import Derived.Test.YtdknlifpoihnmaaTrF
namespace Go.Proofs.Ytdknlifpoihnmaa.Tr
open Go.RowKit
open Gn (Asks Sep)
open Fx (IntsAt Prd PG own_of_block own_base cells2 cells2_at)
set_option maxRecDepth 100000
set_option linter.unusedSimpArgs false
set_option linter.unusedVariables false

/-- A row of trees of the call's own, that may still grow: no kid stands in the row itself. -/
def DItems (base : Nat) (W : World) (A : Option Addr) (cap : Nat) (acc : List Tr) : Prop :=
  ∃ vs : List (Value × Value), vs.length = acc.length ∧ W.ownsRow base 43 2 (.slice A acc.length cap) acc.length (cells2 vs) ∧
    ∀ (i : Nat) (h : i < acc.length) (h2 : i < vs.length), TrAt (fun r => base ≤ r ∧ (Value.slice A acc.length cap).ownBlock ≠ some r) W acc[i] vs[i].1 vs[i].2
theorem DItems.nil (base : Nat) (W : World) : DItems base W none 0 [] := ⟨[], rfl, World.ownsRow_nil _ _ _ _, fun i h => absurd h (by simp)⟩
theorem DItems.keep {base : Nat} {W W' : World} {A : Option Addr} {cap : Nat} {acc : List Tr} (h : DItems base W A cap acc) (hs : W.heap.size ≤ W'.heap.size) (hb : ∀ r, base ≤ r → r < W.heap.size → W'.heap[r]? = W.heap[r]?) : DItems base W' A cap acc := by
  obtain ⟨vs, h1, h2, h3⟩ := h
  refine ⟨vs, h1, ⟨h2.1, ?_⟩, fun i hi hi2 => (h3 i hi hi2).keep hs fun r hp hr => ⟨hp, fun j => Gn.cell_same (hb r hp.1 hr) j⟩⟩
  rcases h2.2 with h4 | ⟨g, cp, cur, hv, hbr, hh, hrest⟩
  · exact .inl h4
  · exact .inr ⟨g, cp, cur, hv, hbr, (hb g hbr (Gn.heap_lt hh)).trans hh, hrest⟩
theorem DItems.trs {base : Nat} {W : World} {A : Option Addr} {cap : Nat} {acc : List Tr} (h : DItems base W A cap acc) : TrsAt (fun r => base ≤ r) W acc (.slice A acc.length cap) := by
  obtain ⟨vs, h1, h2, h3⟩ := h
  rcases h2.2 with ⟨hv, hn⟩ | ⟨g, cp, cur, hv, hbr, hh, hnc, _⟩
  · have e : acc = [] := List.eq_nil_of_length_eq_zero hn
    subst e
    exact ⟨A, cap, 0, fun _ => .bool false, fun _ => .bool false, rfl, by simp, fun h => absurd h (by simp), fun i h => absurd h (by simp)⟩
  · injection hv with hA _ hcp
    subst hA
    subst hcp
    have hcell := h2.cells (g := g) rfl
    refine ⟨some ⟨g, 0, none⟩, cap, g, fun i => (vs.getD i (.bool false, .bool false)).1, fun i => (vs.getD i (.bool false, .bool false)).2, rfl, hnc, fun _ => ⟨rfl, Gn.heap_lt hh, hbr⟩, fun i hi => ?_⟩
    have e : vs.getD i (.bool false, .bool false) = vs[i]'(by omega) := by simp [List.getD, List.getElem?_eq_getElem (show i < vs.length by omega)]
    obtain ⟨c1, c2⟩ := cells2_at vs i (by omega)
    have n2 := h3 i hi (by omega)
    simp only [e]
    refine ⟨⟨?_, ?_⟩, n2.keep (Nat.le_refl _) fun r hp _ => ⟨hp.1, fun _ => rfl⟩⟩
    · have := hcell _ _ c1; rwa [Gn.add_row] at this
    · have := hcell _ _ c2; rwa [Gn.add_row] at this
theorem DItems.own_lt {base : Nat} {W : World} {A : Option Addr} {cap : Nat} {acc : List Tr} (h : DItems base W A cap acc) : ∀ k, (Value.slice A acc.length cap).ownBlock = some k → k < W.heap.size ∧ base ≤ k := by
  obtain ⟨vs, _, ho, _⟩ := h
  exact fun k hk => ⟨Gn.own_lt ho k hk, Gn.own_block ho k hk⟩
/-- Behind an append of one tree that was made behind the row. -/
theorem DItems.snoc {base lo : Nat} {W1 w4 : World} {A : Option Addr} {cap : Nat} {acc : List Tr} {t : Tr} {x y v' : Value} {o : Obj} (h : DItems base W1 A cap acc) (hlo : base ≤ lo) (hown : ∀ k, (Value.slice A acc.length cap).ownBlock = some k → k < lo) (hn : TrAt (fun r => lo ≤ r) W1 t x y)
    (hown4 : ∀ vs : List (Value × Value), W1.ownsRow base 43 2 (.slice A acc.length cap) acc.length (cells2 vs) → w4.ownsRow base 43 2 v' (acc.length + 1) (cells2 vs ++ [x, y]))
    (hg : (W1.alloc o).grownBy w4 (Value.slice A acc.length cap).ownBlock) (hat : v'.ownBlock = (Value.slice A acc.length cap).ownBlock ∨ v'.ownBlock = some (W1.alloc o).heap.size) :
    ∃ A' cap', v' = .slice A' (acc.length + 1) cap' ∧ DItems base w4 A' cap' (acc ++ [t]) := by
  obtain ⟨vs, h1, h2, h3⟩ := h
  have ho := hown4 vs h2
  obtain ⟨A', cap', rfl⟩ := Gn.slice_of ho
  have hl : (acc ++ [t]).length = acc.length + 1 := by simp
  have hsz : W1.heap.size ≤ w4.heap.size := by have := hg.size; simp at this; omega
  have hcell : ∀ r j, r < W1.heap.size → (Value.slice A acc.length cap).ownBlock ≠ some r → w4.cell? ⟨r, j, none⟩ = W1.cell? ⟨r, j, none⟩ := fun r j hr hne => Gn.cell_same ((hg.block r (by simp; omega) (fun e => hne e.symm)).trans (heap_alloc_old W1 o hr)) j
  refine ⟨A', cap', rfl, vs ++ [(x, y)], by simp [h1], by rw [hl, cells2_snoc]; exact ho, fun i hi hi2 => ?_⟩
  rw [hl]
  have hne4 : ∀ r, r < W1.heap.size → (Value.slice A acc.length cap).ownBlock ≠ some r → (Value.slice A' (acc.length + 1) cap').ownBlock ≠ some r := fun r hr hne e => by
    rcases hat with h | h
    · rw [h] at e; exact hne e
    · rw [h] at e; injection e with e; simp at e; omega
  by_cases hi3 : i < acc.length
  · have e1 : (acc ++ [t])[i] = acc[i] := List.getElem_append_left hi3
    have e2 : (vs ++ [(x, y)])[i] = vs[i]'(by omega) := List.getElem_append_left (by omega)
    rw [e1, e2]
    exact (h3 i hi3 (by omega)).keep hsz fun r hp hr => ⟨⟨hp.1, hne4 r hr hp.2⟩, fun j => hcell r j hr hp.2⟩
  · have hie : i = acc.length := by rw [hl] at hi; omega
    subst hie
    have e1 : (acc ++ [t])[acc.length]'hi = t := by simp
    have e2 : (vs ++ [(x, y)])[acc.length]'hi2 = (x, y) := by simp [← h1]
    rw [e1, e2]
    refine hn.keep hsz fun r hp hr => ?_
    have hne : (Value.slice A acc.length cap).ownBlock ≠ some r := fun e => by have := hown r e; omega
    exact ⟨⟨by omega, hne4 r hr hne⟩, fun j => hcell r j hr hne⟩


theorem cell_ahd {w : World} {a : Addr} {v : Value} (h : w.cell? a = some v) (o : Obj) : (w.alloc o).cell? a = some v :=
  (((Below.refl w.heap.size w).alloc (Nat.le_refl _) o).cell (World.block_lt_of_cell? w a h)).trans h
theorem dinfo : (Try.prog.info? 43).map (fun i => (i.zero, i.size, i.bytes)) = some (some (.agg #[.int .i64 0, .slice none 0 0]), 2, 32) := by kernel_rfl
/-- Within told's loop. -/
structure ToAt (W0 : World) (n : Int) (y : Value) (A : Option Addr) (c : Nat) (acc : List Tr) (W : World) : Prop where
  tbox : W.heap[W0.heap.size]? = some (.cells #[.int .i64 n, y] 39 (0, 0))
  res : W.heap[W0.heap.size + 1]? = some (.cells #[.int .i64 0, .slice none 0 0] 43 (0, 0))
  box : W.heap[W0.heap.size + 2]? = some (.cells #[.int .i64 n, .slice A acc.length c] 43 (0, 0))
  items : DItems (W0.heap.size + 3) W A c acc
  below : Below W0.heap.size W0 W
section
variable {W0 W W' : World} {n : Int} {y : Value} {A : Option Addr} {c : Nat} {acc : List Tr}
theorem ToAt.under (h : ToAt W0 n y A c acc W) (b : Below W.heap.size W W') : ToAt W0 n y A c acc W' :=
  ⟨(b.block _ (Gn.heap_lt h.tbox)).trans h.tbox, (b.block _ (Gn.heap_lt h.res)).trans h.res, (b.block _ (Gn.heap_lt h.box)).trans h.box, h.items.keep b.size (fun r _ hr => b.block r hr), h.below.trans (b.mono h.below.size)⟩
theorem ToAt.snoc {w4 : World} {lo gq c' : Nat} {t : Tr} {x yv : Value} {o : Obj} (h : ToAt W0 n y A c acc W) (hlo : W0.heap.size + 3 ≤ lo) (hown : ∀ k, (Value.slice A acc.length c).ownBlock = some k → k < lo) (hn : TrAt (fun r => lo ≤ r) W t x yv)
    (hown4 : ∀ vs : List (Value × Value), W.ownsRow (W0.heap.size + 3) 43 2 (.slice A acc.length c) acc.length (cells2 vs) → w4.ownsRow (W0.heap.size + 3) 43 2 (.slice (some ⟨gq, 0, none⟩) (acc.length + 1) c') (acc.length + 1) (cells2 vs ++ [x, yv]))
    (hg : (W.alloc o).grownBy w4 (Value.slice A acc.length c).ownBlock) (hat : (Value.slice A acc.length c).ownBlock = some gq ∨ gq = (W.alloc o).heap.size) :
    w4.heap[W0.heap.size + 2]? = some (.cells #[.int .i64 n, .slice A acc.length c] 43 (0, 0)) ∧ ToAt W0 n y (some ⟨gq, 0, none⟩) c' (acc ++ [t]) (w4.setCell ⟨W0.heap.size + 2, 1, none⟩ (.slice (some ⟨gq, 0, none⟩) (acc.length + 1) c')) := by
  have hb := h.items.own_lt
  obtain ⟨A2, c2, hv, hit⟩ := h.items.snoc hlo hown hn hown4 hg (hat.elim (fun h => .inl (by rw [h]; rfl)) (fun h => .inr (by subst h; rfl)))
  injection hv with e1 _ e2
  subst e1
  subst e2
  have keep : ∀ q, q < W.heap.size → q ≤ W0.heap.size + 2 → w4.heap[q]? = W.heap[q]? := fun q hq hq2 =>
    (hg.block q (by simp; omega) (fun e => by have := (hb q e.symm).2; omega)).trans (heap_alloc_old W o hq)
  have hlb := Gn.heap_lt h.box
  have hsz : W.heap.size + 1 ≤ w4.heap.size := by have := hg.size; simp at this; omega
  have hb4 := (keep _ hlb (Nat.le_refl _)).trans h.box
  have hset : ∀ q, W0.heap.size + 2 ≠ q → (w4.setCell ⟨W0.heap.size + 2, 1, none⟩ (.slice (some ⟨gq, 0, none⟩) (acc.length + 1) c')).heap[q]? = w4.heap[q]? := fun q hq => Gn.set_keep w4 1 _ hq
  have hszs : (w4.setCell ⟨W0.heap.size + 2, 1, none⟩ (.slice (some ⟨gq, 0, none⟩) (acc.length + 1) c')).heap.size = w4.heap.size := by simp [World.setCell]
  have hbe : Below W0.heap.size W0 w4 := h.below.trans ⟨hg.os, hg.tape, hg.output, by omega, fun q hq => keep q (by have := h.below.size; omega) (by omega)⟩
  refine ⟨hb4, ⟨((hset _ (by omega)).trans (keep _ (Gn.heap_lt h.tbox) (by omega))).trans h.tbox, ((hset _ (by omega)).trans (keep _ (Gn.heap_lt h.res) (by omega))).trans h.res, ?_, ?_, hbe.setCell (by simp <;> omega) _⟩⟩
  · have := Gn.heap_set hb4 1 (.slice (some ⟨gq, 0, none⟩) (acc.length + 1) c')
    rw [show (acc ++ [t]).length = acc.length + 1 by simp]
    exact this
  · exact hit.keep (by rw [hszs]; exact Nat.le_refl _) fun q hq _ => hset q (by omega)
end
def ToOut (W : World) (t : Tr) (e : Ending) (w' : World) : Prop := ∃ (n : Int) (A : Option Addr) (m c : Nat), e = .returned (.agg #[.int .i64 n, .slice A m c]) ∧ TrAt (fun r => W.heap.size ≤ r) w' t (.int .i64 n) (.slice A m c) ∧ Below W.heap.size W w'
set_option maxHeartbeats 16000000 in
theorem told_any {t : Tr} (hs : SmT t) : ∀ (P : Nat → Prop) (W : World) (x y : Value), TrAt P W t x y → Calls Try.prog 10 #[.agg #[x, y]] W (ToOut W t) := by
  induction hs with
  | mk n l hlen hl ih =>
    intro P W x y hnd
    obtain ⟨i0, hi0, hz0, hz1, hz2⟩ := info_parts dinfo
    have hnd0 := hnd
    obtain ⟨rfl, A, cap, r, a, bb, rfl, hcap, hA, hc⟩ := hnd.open_
    obtain ⟨m, hm⟩ : ∃ m, m = l.length := ⟨_, rfl⟩
    rw [← hm] at hA hcap hlen ⊢
    obtain ⟨V, hV⟩ : ∃ V, V = ((W.alloc (.cells #[.int .i64 n, .slice A m cap] 39)).alloc (.cells #[.int .i64 0, .slice none 0 0] 43)).alloc (.cells #[.int .i64 n, .slice none 0 0] 43) := ⟨_, rfl⟩
    have hb0 : Below W.heap.size W V := by rw [hV]; exact (((Below.refl _ W).alloc (Nat.le_refl _) _).alloc (by simp) _).alloc (by simp; omega) _
    have hto : ToAt W n (.slice A m cap) none 0 [] V := by
      refine ⟨?_, ?_, ?_, DItems.nil _ _, hb0⟩
      · rw [hV]; exact (heap_alloc_old _ _ (by simp; omega)).trans ((heap_alloc_old _ _ (by simp)).trans (heap_alloc_new W _))
      · rw [hV]
        refine (heap_alloc_old _ _ (by simp)).trans ?_
        have := heap_alloc_new (W.alloc (.cells #[.int .i64 n, .slice A m cap] 39)) (.cells #[.int .i64 0, .slice none 0 0] 43)
        simpa using this
      · rw [hV]
        have := heap_alloc_new ((W.alloc (.cells #[.int .i64 n, .slice A m cap] 39)).alloc (.cells #[.int .i64 0, .slice none 0 0] 43)) (.cells #[.int .i64 n, .slice none 0 0] 43)
        simpa using this
    have HMM := Lib.hid hm
    have HA := Lib.hid hA
    have HC := Lib.hid hc
    have HIH := Lib.hid ih
    have HV := Lib.hid hV
    have HTO := Lib.hid hto
    clear hm hA hc ih hl hnd hnd0 hV hb0 hto
    go_enter Try.func10, Try.ntmps10
    go_upto_region 2 with fail
    rw [← HV.out]
    go_wp2_with fail
    go_loopw [4] (fun i wr => ∃ (j : Nat) (A2 : Option Addr) (c2 : Nat), j ≤ m ∧ i = .int .i64 j ∧ ToAt W n (.slice A m cap) A2 c2 (l.take j) wr) (fun i _ => m - (intOf i).toNat)
    case atStart => exact ⟨0, none, 0, Nat.zero_le _, rfl, HTO.out⟩
    case round =>
      obtain ⟨j, A2, c2, hj, rfl, hto⟩ := hrel
      have HT := Lib.hid hto
      have hjl0 : (l.take j).length = j := by rw [List.length_take, ← HMM.out]; omega
      have t1 := cell_of_row _ _ 1 _ _ (0, 0) hto.tbox
      by_cases hjm : j < m
      · have hjm2 : (j : Int) < (m : Int) := by omega
        have hjl : j < l.length := by rw [← HMM.out]; exact hjm
        obtain ⟨eA, hr, hPr⟩ := HA.out (by omega)
        subst eA
        obtain ⟨⟨p0, p1⟩, hk⟩ := HC.out j hjl
        obtain ⟨kn, kA, km, kc, f1, f2⟩ := hk.form
        rw [f1] at p0
        rw [f2] at p1
        rw [f1, f2] at hk
        have d1 := cell_of_row _ _ 1 _ _ (0, 0) hto.box
        have d1a := cell_ahd d1
        have htk : l.take (j + 1) = l.take j ++ [l[j]] := List.take_succ_eq_append_getElem hjl
        have HTK := Lib.hid htk
        have HMK := Lib.hid (fun (w' : World) (b : Below wr.heap.size wr w') => show (fun w' : World => w'.cell? ⟨W.heap.size, 1, none⟩ = some (.slice (some ⟨r, 0, none⟩) m cap) ∧ w'.cell? ⟨r, j * 2, none⟩ = some (.int .i64 kn) ∧ w'.cell? ⟨r, j * 2 + 1, none⟩ = some (.slice kA km kc)) w' from
          ⟨(b.cell (p := ⟨W.heap.size, 1, none⟩) (Gn.heap_lt hto.tbox)).trans t1, (b.cell (p := ⟨r, j * 2, none⟩) (Nat.lt_of_lt_of_le hr hto.below.size)).trans ((hto.below.cell (p := ⟨r, j * 2, none⟩) hr).trans p0), (b.cell (p := ⟨r, j * 2 + 1, none⟩) (Nat.lt_of_lt_of_le hr hto.below.size)).trans ((hto.below.cell (p := ⟨r, j * 2 + 1, none⟩) hr).trans p1)⟩)
        have HKJ := Lib.hid (fun (X : World) (hX : Below wr.heap.size wr X) => (HIH.out l[j] (List.getElem_mem hjl) P X _ _ (hk.under (hto.below.trans (hX.mono hto.below.size)))).mono fun e w' h => show ∃ (n5 : Int) (A5 : Option Addr) (m5 c5 : Nat), e = .returned (.agg #[.int .i64 n5, .slice A5 m5 c5]) ∧ TrAt (fun r => wr.heap.size ≤ r) w' l[j] (.int .i64 n5) (.slice A5 m5 c5) ∧ Below wr.heap.size wr w' from (by
          obtain ⟨n5, A5, m5, c5, h1, h2, h3⟩ := h
          exact ⟨n5, A5, m5, c5, h1, h2.keep (Nat.le_refl _) fun r hr _ => ⟨by have := hX.size; omega, fun _ => rfl⟩, hX.trans (h3.mono hX.size)⟩))
        have HOW := Lib.hid hto.items.own_lt
        have hlz : W.heap.size + 3 ≤ wr.heap.size := Gn.heap_lt hto.box
        obtain ⟨q, hq⟩ : ∃ q, q = (l.take j).length := ⟨_, rfl⟩
        have hqj : q = j := by omega
        have hqm : q ≤ 1099511627776 := by omega
        clear hk p0 p1 f1 f2 htk hto hqj hjl0
        go_upto_region 5 with fail
        refine wp_region_noPanic ?_
        refine wp_region_held_drew (S := (fun w' : World => w'.cell? ⟨W.heap.size, 1, none⟩ = some (.slice (some ⟨r, 0, none⟩) m cap) ∧ w'.cell? ⟨r, j * 2, none⟩ = some (.int .i64 kn) ∧ w'.cell? ⟨r, j * 2 + 1, none⟩ = some (.slice kA km kc))) (by kernel_rfl) ?_ (fun hHeld => ?_)
        · exact HMK.out _ (Gn.below_drew (Below.refl _ _))
        refine wpAnyH_take (i := 0) (v := ?_) rfl (by kernel_rfl) (by kernel_rfl) (by kernel_rfl) (fun _ _ _ h => h) (Or.inl ⟨by rfl, ?_⟩) (by assumption) ?_
        rotate_left
        · intro w hSw
          try dsimp only at hSw
          go_simp
          try with_reducible rfl
        try simp only [Act.put, List.setIfInBounds_toArray, List.set_cons_zero, List.set_cons_succ]
        refine wpAnyH_take (i := 2) (v := ?_) rfl (by kernel_rfl) (by kernel_rfl) (by kernel_rfl) (fun _ _ _ h => h) (Or.inl ⟨by rfl, ?_⟩) (by assumption) ?_
        rotate_left
        · intro w hSw
          try dsimp only at hSw
          go_simp
          try with_reducible rfl
        try simp only [Act.put, List.setIfInBounds_toArray, List.set_cons_zero, List.set_cons_succ]
        refine wpAnyH_take (i := 3) (v := ?_) rfl (by kernel_rfl) (by kernel_rfl) (by kernel_rfl) (fun _ _ _ h => h) (Or.inl ⟨by rfl, ?_⟩) (by assumption) ?_
        rotate_left
        · intro w hSw
          try dsimp only at hSw
          go_simp
          try with_reducible rfl
        try simp only [Act.put, List.setIfInBounds_toArray, List.set_cons_zero, List.set_cons_succ]
        refine wpAnyH_take (i := 4) (v := ?_) rfl (by kernel_rfl) (by kernel_rfl) (by kernel_rfl) (fun _ _ _ h => h) (Or.inl ⟨by rfl, ?_⟩) (by assumption) ?_
        rotate_left
        · intro w hSw
          try dsimp only at hSw
          go_simp
          try with_reducible rfl
        try simp only [Act.put, List.setIfInBounds_toArray, List.set_cons_zero, List.set_cons_succ]
        refine wpAnyH_take (i := 5) (v := ?_) rfl (by kernel_rfl) (by kernel_rfl) (by kernel_rfl) (fun _ _ _ h => h) (Or.inl ⟨by rfl, ?_⟩) (by assumption) ?_
        rotate_left
        · intro w hSw
          try dsimp only at hSw
          go_simp
          try with_reducible rfl
        try simp only [Act.put, List.setIfInBounds_toArray, List.set_cons_zero, List.set_cons_succ]
        refine wpAnyH_take (i := 6) (v := ?_) rfl (by kernel_rfl) (by kernel_rfl) (by kernel_rfl) (fun _ _ _ h => h) (Or.inl ⟨by rfl, ?_⟩) (by assumption) ?_
        rotate_left
        · intro w hSw
          try dsimp only at hSw
          go_simp
          try with_reducible rfl
        try simp only [Act.put, List.setIfInBounds_toArray, List.set_cons_zero, List.set_cons_succ]
        refine wpAnyH_ready (rs := [1, 7]) (by kernel_rfl) (by simp) ?_
        refine AllReadyH.cons rfl (fun K hK => ?_) ?_
        · go_simp
          refine hK.out _ _ (hHeld) (fun hHeld => ?_)
          clear hK K
          try simp only [Act.put, List.setIfInBounds_toArray, List.set_cons_zero, List.set_cons_succ]
          refine wpAnyH_ready (rs := [7]) (by kernel_rfl) (by simp) ?_
          refine AllReadyH.cons rfl (fun K hK => ?_) AllReadyH.nil
          go_simp
          go_at_call 10
          refine (HKJ.out _ (by first | exact Gn.below_drew (Below.refl _ _))).mono ?_
          rintro e w5 ⟨n5, A5, m5, c5, rfl, ht5, hb5⟩
          have h5 := HT.out.under hb5
          obtain ⟨vs, hv1, hv2, hv3⟩ := h5.items
          have HV5 := Lib.hid hv2
          have H5 := Lib.hid h5
          have HT5 := Lib.hid ht5
          have HB5 := Lib.hid hb5
          have e1 := cell_of_row _ _ 1 _ _ (0, 0) h5.box
          have e1a := cell_ahd e1
          have hz5 : wr.heap.size ≤ w5.heap.size := hb5.size
          clear hv1 hv2 hv3 h5 ht5 hb5
          refine hK.out _ _ (HMK.out _ HB5.out) (fun hHeld => ?_)
          clear hK K
          try simp only [Act.put, List.setIfInBounds_toArray, List.set_cons_zero, List.set_cons_succ]
          refine wpAnyH_ready (rs := [8]) (by kernel_rfl) (by simp) ?_
          refine AllReadyH.cons rfl (fun K hK => ?_) AllReadyH.nil
          go_simp
          refine hK.out _ _ (HMK.out _ (HB5.out.alloc HB5.out.size _)) (fun hHeld => ?_)
          clear hK K
          try simp only [Act.put, List.setIfInBounds_toArray, List.set_cons_zero, List.set_cons_succ]
          refine wpAnyH_ready (rs := [9]) (by kernel_rfl) (by simp) ?_
          refine AllReadyH.cons rfl (fun K hK => ?_) AllReadyH.nil
          refine step_append_lies _ (by rfl) (.tmp 16) (.tmp 23) 41 (by rfl) (W.heap.size + 3) 43 i0 _ 2 32 Try.underlying41 hi0 hz0 hz1 hz2 rfl (by decide) (.slice A2 (l.take j).length c2) (l.take j).length (cells2 vs) (by simp [Act.eval]) (HV5.out.alloc _) ⟨w5.heap.size, 0, none⟩ 1 1 [.int .i64 n5, .slice A5 m5 c5] (by simp [Act.eval]) rfl (Gn.row_new w5 [.int .i64 n5, .slice A5 m5 c5] 43 w5.heap.size rfl) (by simp [Value.oneCell']) (by decide) (by unfold maxLen; omega) (by omega) (by simp; omega) _ rfl ?_
          intro gq cap4 w4 hown4 hgrow4 hat4 hlt4
          have h4 := H5.out.snoc (lo := wr.heap.size) (t := l[j]) (gq := gq) (c' := cap4) hlz (fun k hk => (HOW.out k hk).1) HT5.out (fun vs4 hv4 => by rw [Gn.owns_uniq hv4 HV5.out]; exact hown4) hgrow4 hat4
          have u9 : w4.cell? ⟨W.heap.size + 2, 1, none⟩ = some (.slice A2 (l.take j).length c2) := cell_of_row _ _ 1 _ _ (0, 0) h4.1
          have uf9 := Gn.frozen_row h4.1 1
          have H4 := Lib.hid h4.2
          have HG9 := Lib.hid hgrow4
          have hnb : ∀ k, k < wr.heap.size → (Value.slice A2 (l.take j).length c2).ownBlock ≠ some k → w4.heap[k]? = wr.heap[k]? := fun k hk hn => (HG9.out.block k (by simp; omega) (fun e => hn e.symm)).trans ((heap_alloc_old w5 _ (by omega)).trans (HB5.out.block k hk))
          have hS0 := HMK.out wr (Below.refl _ _)
          have HS4 := Lib.hid (show (fun w' : World => w'.cell? ⟨W.heap.size, 1, none⟩ = some (.slice (some ⟨r, 0, none⟩) m cap) ∧ w'.cell? ⟨r, j * 2, none⟩ = some (.int .i64 kn) ∧ w'.cell? ⟨r, j * 2 + 1, none⟩ = some (.slice kA km kc)) w4 from ⟨(Gn.cell_same (hnb W.heap.size (by omega) (fun e => by have := (HOW.out _ e).2; omega)) _).trans hS0.1, (Gn.cell_same (hnb r (by omega) (fun e => by have := (HOW.out _ e).2; omega)) _).trans hS0.2.1, (Gn.cell_same (hnb r (by omega) (fun e => by have := (HOW.out _ e).2; omega)) _).trans hS0.2.2⟩)
          clear h4 hown4 hgrow4 hat4 hlt4 hnb hS0
          refine hK.out _ _ (HS4.out) (fun hHeld => ?_)
          clear hK K
          try simp only [Act.put, List.setIfInBounds_toArray, List.set_cons_zero, List.set_cons_succ]
          refine wpAnyH_take (i := 10) (v := ?_) rfl (by kernel_rfl) (by kernel_rfl) (by kernel_rfl) (fun _ _ _ h => h) (Or.inl ⟨by rfl, ?_⟩) (by assumption) ?_
          rotate_left
          · intro w hSw
            try dsimp only at hSw
            go_simp
            try with_reducible rfl
          try simp only [Act.put, List.setIfInBounds_toArray, List.set_cons_zero, List.set_cons_succ]
          refine wpAnyH_ready (rs := [11]) (by kernel_rfl) (by simp) ?_
          refine AllReadyH.cons rfl (fun K hK => ?_) AllReadyH.nil
          go_simp
          refine hK.out _ _ (⟨(Gn.cell_same (Gn.set_keep _ _ _ (by omega)) _).trans hHeld.1, (Gn.cell_same (Gn.set_keep _ _ _ (by omega)) _).trans hHeld.2.1, (Gn.cell_same (Gn.set_keep _ _ _ (by omega)) _).trans hHeld.2.2⟩) (fun hHeld => ?_)
          clear hK K
          try simp only [Act.put, List.setIfInBounds_toArray, List.set_cons_zero, List.set_cons_succ]
          refine wpAnyH_done (by kernel_rfl) ?_ _
          refine NoPanic.normal ?_
          go_wp2_with fail
          go_roundw
          case rel => exact ⟨j + 1, some ⟨gq, 0, none⟩, cap4, by omega, by simp, by rw [HTK.out]; have h9 := H4.out; simp only [List.length_take] at h9; exact h9⟩
          case measure => simp [intOf]; omega
        refine AllReadyH.cons rfl (fun K hK => ?_) AllReadyH.nil
        · go_simp
          go_at_call 10
          refine (HKJ.out _ (by first | exact Gn.below_drew (Below.refl _ _))).mono ?_
          rintro e w5 ⟨n5, A5, m5, c5, rfl, ht5, hb5⟩
          have h5 := HT.out.under hb5
          obtain ⟨vs, hv1, hv2, hv3⟩ := h5.items
          have HV5 := Lib.hid hv2
          have H5 := Lib.hid h5
          have HT5 := Lib.hid ht5
          have HB5 := Lib.hid hb5
          have e1 := cell_of_row _ _ 1 _ _ (0, 0) h5.box
          have e1a := cell_ahd e1
          have hz5 : wr.heap.size ≤ w5.heap.size := hb5.size
          clear hv1 hv2 hv3 h5 ht5 hb5
          refine hK.out _ _ (HMK.out _ HB5.out) (fun hHeld => ?_)
          clear hK K
          try simp only [Act.put, List.setIfInBounds_toArray, List.set_cons_zero, List.set_cons_succ]
          refine wpAnyH_ready (rs := [1, 8]) (by kernel_rfl) (by simp) ?_
          refine AllReadyH.cons rfl (fun K hK => ?_) ?_
          · go_simp
            refine hK.out _ _ (hHeld) (fun hHeld => ?_)
            clear hK K
            try simp only [Act.put, List.setIfInBounds_toArray, List.set_cons_zero, List.set_cons_succ]
            refine wpAnyH_ready (rs := [8]) (by kernel_rfl) (by simp) ?_
            refine AllReadyH.cons rfl (fun K hK => ?_) AllReadyH.nil
            go_simp
            refine hK.out _ _ (HMK.out _ (HB5.out.alloc HB5.out.size _)) (fun hHeld => ?_)
            clear hK K
            try simp only [Act.put, List.setIfInBounds_toArray, List.set_cons_zero, List.set_cons_succ]
            refine wpAnyH_ready (rs := [9]) (by kernel_rfl) (by simp) ?_
            refine AllReadyH.cons rfl (fun K hK => ?_) AllReadyH.nil
            refine step_append_lies _ (by rfl) (.tmp 16) (.tmp 23) 41 (by rfl) (W.heap.size + 3) 43 i0 _ 2 32 Try.underlying41 hi0 hz0 hz1 hz2 rfl (by decide) (.slice A2 (l.take j).length c2) (l.take j).length (cells2 vs) (by simp [Act.eval]) (HV5.out.alloc _) ⟨w5.heap.size, 0, none⟩ 1 1 [.int .i64 n5, .slice A5 m5 c5] (by simp [Act.eval]) rfl (Gn.row_new w5 [.int .i64 n5, .slice A5 m5 c5] 43 w5.heap.size rfl) (by simp [Value.oneCell']) (by decide) (by unfold maxLen; omega) (by omega) (by simp; omega) _ rfl ?_
            intro gq cap4 w4 hown4 hgrow4 hat4 hlt4
            have h4 := H5.out.snoc (lo := wr.heap.size) (t := l[j]) (gq := gq) (c' := cap4) hlz (fun k hk => (HOW.out k hk).1) HT5.out (fun vs4 hv4 => by rw [Gn.owns_uniq hv4 HV5.out]; exact hown4) hgrow4 hat4
            have u9 : w4.cell? ⟨W.heap.size + 2, 1, none⟩ = some (.slice A2 (l.take j).length c2) := cell_of_row _ _ 1 _ _ (0, 0) h4.1
            have uf9 := Gn.frozen_row h4.1 1
            have H4 := Lib.hid h4.2
            have HG9 := Lib.hid hgrow4
            have hnb : ∀ k, k < wr.heap.size → (Value.slice A2 (l.take j).length c2).ownBlock ≠ some k → w4.heap[k]? = wr.heap[k]? := fun k hk hn => (HG9.out.block k (by simp; omega) (fun e => hn e.symm)).trans ((heap_alloc_old w5 _ (by omega)).trans (HB5.out.block k hk))
            have hS0 := HMK.out wr (Below.refl _ _)
            have HS4 := Lib.hid (show (fun w' : World => w'.cell? ⟨W.heap.size, 1, none⟩ = some (.slice (some ⟨r, 0, none⟩) m cap) ∧ w'.cell? ⟨r, j * 2, none⟩ = some (.int .i64 kn) ∧ w'.cell? ⟨r, j * 2 + 1, none⟩ = some (.slice kA km kc)) w4 from ⟨(Gn.cell_same (hnb W.heap.size (by omega) (fun e => by have := (HOW.out _ e).2; omega)) _).trans hS0.1, (Gn.cell_same (hnb r (by omega) (fun e => by have := (HOW.out _ e).2; omega)) _).trans hS0.2.1, (Gn.cell_same (hnb r (by omega) (fun e => by have := (HOW.out _ e).2; omega)) _).trans hS0.2.2⟩)
            clear h4 hown4 hgrow4 hat4 hlt4 hnb hS0
            refine hK.out _ _ (HS4.out) (fun hHeld => ?_)
            clear hK K
            try simp only [Act.put, List.setIfInBounds_toArray, List.set_cons_zero, List.set_cons_succ]
            refine wpAnyH_take (i := 10) (v := ?_) rfl (by kernel_rfl) (by kernel_rfl) (by kernel_rfl) (fun _ _ _ h => h) (Or.inl ⟨by rfl, ?_⟩) (by assumption) ?_
            rotate_left
            · intro w hSw
              try dsimp only at hSw
              go_simp
              try with_reducible rfl
            try simp only [Act.put, List.setIfInBounds_toArray, List.set_cons_zero, List.set_cons_succ]
            refine wpAnyH_ready (rs := [11]) (by kernel_rfl) (by simp) ?_
            refine AllReadyH.cons rfl (fun K hK => ?_) AllReadyH.nil
            go_simp
            refine hK.out _ _ (⟨(Gn.cell_same (Gn.set_keep _ _ _ (by omega)) _).trans hHeld.1, (Gn.cell_same (Gn.set_keep _ _ _ (by omega)) _).trans hHeld.2.1, (Gn.cell_same (Gn.set_keep _ _ _ (by omega)) _).trans hHeld.2.2⟩) (fun hHeld => ?_)
            clear hK K
            try simp only [Act.put, List.setIfInBounds_toArray, List.set_cons_zero, List.set_cons_succ]
            refine wpAnyH_done (by kernel_rfl) ?_ _
            refine NoPanic.normal ?_
            go_wp2_with fail
            go_roundw
            case rel => exact ⟨j + 1, some ⟨gq, 0, none⟩, cap4, by omega, by simp, by rw [HTK.out]; have h9 := H4.out; simp only [List.length_take] at h9; exact h9⟩
            case measure => simp [intOf]; omega
          refine AllReadyH.cons rfl (fun K hK => ?_) AllReadyH.nil
          · go_simp
            refine hK.out _ _ (HMK.out _ (HB5.out.alloc HB5.out.size _)) (fun hHeld => ?_)
            clear hK K
            try simp only [Act.put, List.setIfInBounds_toArray, List.set_cons_zero, List.set_cons_succ]
            refine wpAnyH_ready (rs := [1]) (by kernel_rfl) (by simp) ?_
            refine AllReadyH.cons rfl (fun K hK => ?_) AllReadyH.nil
            go_simp
            refine hK.out _ _ (hHeld) (fun hHeld => ?_)
            clear hK K
            try simp only [Act.put, List.setIfInBounds_toArray, List.set_cons_zero, List.set_cons_succ]
            refine wpAnyH_ready (rs := [9]) (by kernel_rfl) (by simp) ?_
            refine AllReadyH.cons rfl (fun K hK => ?_) AllReadyH.nil
            refine step_append_lies _ (by rfl) (.tmp 16) (.tmp 23) 41 (by rfl) (W.heap.size + 3) 43 i0 _ 2 32 Try.underlying41 hi0 hz0 hz1 hz2 rfl (by decide) (.slice A2 (l.take j).length c2) (l.take j).length (cells2 vs) (by simp [Act.eval]) (HV5.out.alloc _) ⟨w5.heap.size, 0, none⟩ 1 1 [.int .i64 n5, .slice A5 m5 c5] (by simp [Act.eval]) rfl (Gn.row_new w5 [.int .i64 n5, .slice A5 m5 c5] 43 w5.heap.size rfl) (by simp [Value.oneCell']) (by decide) (by unfold maxLen; omega) (by omega) (by simp; omega) _ rfl ?_
            intro gq cap4 w4 hown4 hgrow4 hat4 hlt4
            have h4 := H5.out.snoc (lo := wr.heap.size) (t := l[j]) (gq := gq) (c' := cap4) hlz (fun k hk => (HOW.out k hk).1) HT5.out (fun vs4 hv4 => by rw [Gn.owns_uniq hv4 HV5.out]; exact hown4) hgrow4 hat4
            have u9 : w4.cell? ⟨W.heap.size + 2, 1, none⟩ = some (.slice A2 (l.take j).length c2) := cell_of_row _ _ 1 _ _ (0, 0) h4.1
            have uf9 := Gn.frozen_row h4.1 1
            have H4 := Lib.hid h4.2
            have HG9 := Lib.hid hgrow4
            have hnb : ∀ k, k < wr.heap.size → (Value.slice A2 (l.take j).length c2).ownBlock ≠ some k → w4.heap[k]? = wr.heap[k]? := fun k hk hn => (HG9.out.block k (by simp; omega) (fun e => hn e.symm)).trans ((heap_alloc_old w5 _ (by omega)).trans (HB5.out.block k hk))
            have hS0 := HMK.out wr (Below.refl _ _)
            have HS4 := Lib.hid (show (fun w' : World => w'.cell? ⟨W.heap.size, 1, none⟩ = some (.slice (some ⟨r, 0, none⟩) m cap) ∧ w'.cell? ⟨r, j * 2, none⟩ = some (.int .i64 kn) ∧ w'.cell? ⟨r, j * 2 + 1, none⟩ = some (.slice kA km kc)) w4 from ⟨(Gn.cell_same (hnb W.heap.size (by omega) (fun e => by have := (HOW.out _ e).2; omega)) _).trans hS0.1, (Gn.cell_same (hnb r (by omega) (fun e => by have := (HOW.out _ e).2; omega)) _).trans hS0.2.1, (Gn.cell_same (hnb r (by omega) (fun e => by have := (HOW.out _ e).2; omega)) _).trans hS0.2.2⟩)
            clear h4 hown4 hgrow4 hat4 hlt4 hnb hS0
            refine hK.out _ _ (HS4.out) (fun hHeld => ?_)
            clear hK K
            try simp only [Act.put, List.setIfInBounds_toArray, List.set_cons_zero, List.set_cons_succ]
            refine wpAnyH_take (i := 10) (v := ?_) rfl (by kernel_rfl) (by kernel_rfl) (by kernel_rfl) (fun _ _ _ h => h) (Or.inl ⟨by rfl, ?_⟩) (by assumption) ?_
            rotate_left
            · intro w hSw
              try dsimp only at hSw
              go_simp
              try with_reducible rfl
            try simp only [Act.put, List.setIfInBounds_toArray, List.set_cons_zero, List.set_cons_succ]
            refine wpAnyH_ready (rs := [11]) (by kernel_rfl) (by simp) ?_
            refine AllReadyH.cons rfl (fun K hK => ?_) AllReadyH.nil
            go_simp
            refine hK.out _ _ (⟨(Gn.cell_same (Gn.set_keep _ _ _ (by omega)) _).trans hHeld.1, (Gn.cell_same (Gn.set_keep _ _ _ (by omega)) _).trans hHeld.2.1, (Gn.cell_same (Gn.set_keep _ _ _ (by omega)) _).trans hHeld.2.2⟩) (fun hHeld => ?_)
            clear hK K
            try simp only [Act.put, List.setIfInBounds_toArray, List.set_cons_zero, List.set_cons_succ]
            refine wpAnyH_done (by kernel_rfl) ?_ _
            refine NoPanic.normal ?_
            go_wp2_with fail
            go_roundw
            case rel => exact ⟨j + 1, some ⟨gq, 0, none⟩, cap4, by omega, by simp, by rw [HTK.out]; have h9 := H4.out; simp only [List.length_take] at h9; exact h9⟩
            case measure => simp [intOf]; omega
      · have hje : j = m := by omega
        subst hje
        have hjm2 : ¬ ((j : Nat) : Int) < ((j : Nat) : Int) := by omega
        have htk : l.take j = l := by rw [HMM.out, List.take_length]
        rw [htk] at HT
        have d0 := cell_of_row _ _ 0 _ _ (0, 0) HT.out.box
        have d1 := cell_of_row _ _ 1 _ _ (0, 0) HT.out.box
        have r0 := cell_of_row _ _ 0 _ _ (0, 0) HT.out.res
        have r1 := cell_of_row _ _ 1 _ _ (0, 0) HT.out.res
        have rf0 := Gn.frozen_row HT.out.res 0
        have rf1 := Gn.frozen_row HT.out.res 1
        have HRS := Lib.hid (res_set HT.out.res (.int .i64 n) (.slice A2 l.length c2))
        have hk9 : ∀ b, W.heap.size + 1 ≠ b → ((wr.setCell ⟨W.heap.size + 1, 0, none⟩ (.int .i64 n)).setCell ⟨W.heap.size + 1, 1, none⟩ (.slice A2 l.length c2)).heap[b]? = wr.heap[b]? := fun b hb => (Gn.set_keep _ 1 _ hb).trans (Gn.set_keep _ 0 _ hb)
        have hsz9 : ((wr.setCell ⟨W.heap.size + 1, 0, none⟩ (.int .i64 n)).setCell ⟨W.heap.size + 1, 1, none⟩ (.slice A2 l.length c2)).heap.size = wr.heap.size := by simp [World.setCell]
        have HFI := Lib.hid (show ToOut W (.mk n l) (.returned (.agg #[.int .i64 n, .slice A2 l.length c2])) ((wr.setCell ⟨W.heap.size + 1, 0, none⟩ (.int .i64 n)).setCell ⟨W.heap.size + 1, 1, none⟩ (.slice A2 l.length c2)) from
          ⟨n, A2, l.length, c2, rfl, (HT.out.items.trs.tree n).keep (by rw [hsz9]; exact Nat.le_refl _) (fun r hr _ => ⟨by omega, fun j => Gn.cell_same (hk9 r (by omega)) j⟩), (HT.out.below.setCell (by simp) _).setCell (by simp) _⟩)
        clear hk9 hsz9 hto htk hjl0
        go_wp2_with fail
        exact bodyPost_ret (results_cell_row rfl _ _ (W.heap.size + 1) 43 _ (0, 0) _ rfl HRS.out Try.underlying43 rfl rfl) rfl HFI.out
end Go.Proofs.Ytdknlifpoihnmaa.Tr
