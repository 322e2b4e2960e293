/-
  Layer 14: the reader of a tree's bytes: tree.
-/
import Derived.Test.YtdknlifpoihnmaaTrE
import Derived.Test.YtdknlifpoihnmaaFxPr
import Derived.Deep.AppendLies
import Derived.Deep.RegionLaw
import Derived.Deep.DeepCutAuto
namespace Go.Proofs.Ytdknlifpoihnmaa.Tr
open Go.RowKit
open Gn (Asks Sep)
open Oct (gb bs three get_any)
open Fx (IntsAt StrsAt Prd PG PrdsAt PgAt PgBox soundB sound_any cells2 cells2_at)
set_option maxRecDepth 100000
set_option linter.unusedSimpArgs false
set_option linter.unusedVariables false

abbrev TRes := Except Nat (Tr × List UInt8 × Nat)
def kidsG (T : Int → List UInt8 → Nat → TRes) : List Tr → List Int → List UInt8 → Nat → Except Nat (List Tr × List UInt8 × Nat)
  | acc, [], s, nd => .ok (acc, s, nd)
  | acc, y :: ys, s, nd => match T y s nd with
    | .error e => .error e
    | .ok (t, s', nd') => kidsG T (acc ++ [t]) ys s' nd'
def wrapK (n : Int) : Except Nat (List Tr × List UInt8 × Nat) → TRes
  | .error e => .error e
  | .ok (l, s', nd') => .ok (.mk n l, s', nd')
def treeR (g : PG) : Nat → Option Int → List UInt8 → Nat → TRes
  | 0, _, _, _ => .error 6
  | f + 1, o, s, nd => match nodeR g o s nd with
    | .error e => .error e
    | .ok (n, j) => wrapK n (kidsG (fun y => treeR g f (some y)) [] (sideT g n) (s.drop j) (nd + 1))
theorem nodeR_ok {g : PG} {o : Option Int} {s : List UInt8} {nd : Nat} {n : Int} {j : Nat} (h : nodeR g o s nd = .ok (n, j)) : nd ≠ 65536 ∧ n < (g.prods.length : Int) := by
  have hgb := gbe_le s
  unfold nodeR at h
  simp only at h
  by_cases hg : (gb s).2.2 = 0
  · rw [if_pos hg] at h
    by_cases h0 : (if nd = 65536 ∧ wrongT g o (gb s).1 ≠ 10 ∧ wrongT g o (gb s).1 ≠ 7 then 6 else wrongT g o (gb s).1) = 0
    · rw [if_pos h0] at h
      injection h with h
      injection h with h1 h2
      by_cases h6 : nd = 65536 ∧ wrongT g o (gb s).1 ≠ 10 ∧ wrongT g o (gb s).1 ≠ 7
      · rw [if_pos h6] at h0; omega
      · rw [if_neg h6] at h0
        have hrt : (rootT g (gb s).1).2 = true := by
          unfold wrongT at h0
          split at h0
          · assumption
          · omega
        rw [h1] at hrt
        exact ⟨fun e => h6 ⟨e, by omega, by omega⟩, rootT_lt hrt⟩
    · rw [if_neg h0] at h; cases h
  · rw [if_neg hg] at h
    by_cases h0 : (if nd = 65536 ∧ (gb s).2.2 ≠ 10 ∧ (gb s).2.2 ≠ 7 then 6 else (gb s).2.2) = 0
    · exfalso
      split at h0 <;> omega
    · rw [if_neg h0] at h; cases h

/-- A row of trees of the call's own, that may still grow: no kid stands in the row itself. -/
def TItems (base : Nat) (W : World) (A : Option Addr) (cap : Nat) (acc : List Tr) : Prop :=
  ∃ vs : List (Value × Value), vs.length = acc.length ∧ W.ownsRow base 39 2 (.slice A acc.length cap) acc.length (cells2 vs) ∧
    ∀ (i : Nat) (h : i < acc.length) (h2 : i < vs.length), TrAt (fun r => base ≤ r ∧ (Value.slice A acc.length cap).ownBlock ≠ some r) W acc[i] vs[i].1 vs[i].2
theorem TItems.nil (base : Nat) (W : World) : TItems base W none 0 [] := ⟨[], rfl, World.ownsRow_nil _ _ _ _, fun i h => absurd h (by simp)⟩
theorem TItems.keep {base : Nat} {W W' : World} {A : Option Addr} {cap : Nat} {acc : List Tr} (h : TItems base W A cap acc) (hs : W.heap.size ≤ W'.heap.size) (hb : ∀ r, base ≤ r → r < W.heap.size → W'.heap[r]? = W.heap[r]?) : TItems base W' A cap acc := by
  obtain ⟨vs, h1, h2, h3⟩ := h
  refine ⟨vs, h1, ⟨h2.1, ?_⟩, fun i hi hi2 => (h3 i hi hi2).keep hs fun r hp hr => ⟨hp, fun j => Gn.cell_same (hb r hp.1 hr) j⟩⟩
  rcases h2.2 with h4 | ⟨g, cp, cur, hv, hbr, hh, hrest⟩
  · exact .inl h4
  · exact .inr ⟨g, cp, cur, hv, hbr, (hb g hbr (Gn.heap_lt hh)).trans hh, hrest⟩
theorem TItems.trs {base : Nat} {W : World} {A : Option Addr} {cap : Nat} {acc : List Tr} (h : TItems base W A cap acc) : TrsAt (fun r => base ≤ r) W acc (.slice A acc.length cap) := by
  obtain ⟨vs, h1, h2, h3⟩ := h
  rcases h2.2 with ⟨hv, hn⟩ | ⟨g, cp, cur, hv, hbr, hh, hnc, _⟩
  · have e : acc = [] := List.eq_nil_of_length_eq_zero hn
    subst e
    exact ⟨A, cap, 0, fun _ => .bool false, fun _ => .bool false, rfl, by simp, fun h => absurd h (by simp), fun i h => absurd h (by simp)⟩
  · injection hv with hA _ hcp
    subst hA
    subst hcp
    have hcell := h2.cells (g := g) rfl
    refine ⟨some ⟨g, 0, none⟩, cap, g, fun i => (vs.getD i (.bool false, .bool false)).1, fun i => (vs.getD i (.bool false, .bool false)).2, rfl, hnc, fun _ => ⟨rfl, Gn.heap_lt hh, hbr⟩, fun i hi => ?_⟩
    have e : vs.getD i (.bool false, .bool false) = vs[i]'(by omega) := by simp [List.getD, List.getElem?_eq_getElem (show i < vs.length by omega)]
    obtain ⟨c1, c2⟩ := cells2_at vs i (by omega)
    have n2 := h3 i hi (by omega)
    simp only [e]
    refine ⟨⟨?_, ?_⟩, n2.keep (Nat.le_refl _) fun r hp _ => ⟨hp.1, fun _ => rfl⟩⟩
    · have := hcell _ _ c1; rwa [Gn.add_row] at this
    · have := hcell _ _ c2; rwa [Gn.add_row] at this
theorem TItems.own_lt {base : Nat} {W : World} {A : Option Addr} {cap : Nat} {acc : List Tr} (h : TItems base W A cap acc) : ∀ k, (Value.slice A acc.length cap).ownBlock = some k → k < W.heap.size ∧ base ≤ k := by
  obtain ⟨vs, _, ho, _⟩ := h
  exact fun k hk => ⟨Gn.own_lt ho k hk, Gn.own_block ho k hk⟩
theorem cells2_snoc (vs : List (Value × Value)) (v : Value × Value) : cells2 (vs ++ [v]) = cells2 vs ++ [v.1, v.2] := by simp [cells2]
/-- Behind an append of one tree that was made behind the row. -/
theorem TItems.snoc {base lo : Nat} {W1 w4 : World} {A : Option Addr} {cap : Nat} {acc : List Tr} {t : Tr} {x y v' : Value} {o : Obj} (h : TItems base W1 A cap acc) (hlo : base ≤ lo) (hown : ∀ k, (Value.slice A acc.length cap).ownBlock = some k → k < lo) (hn : TrAt (fun r => lo ≤ r) W1 t x y)
    (hown4 : ∀ vs : List (Value × Value), W1.ownsRow base 39 2 (.slice A acc.length cap) acc.length (cells2 vs) → w4.ownsRow base 39 2 v' (acc.length + 1) (cells2 vs ++ [x, y]))
    (hg : (W1.alloc o).grownBy w4 (Value.slice A acc.length cap).ownBlock) (hat : v'.ownBlock = (Value.slice A acc.length cap).ownBlock ∨ v'.ownBlock = some (W1.alloc o).heap.size) :
    ∃ A' cap', v' = .slice A' (acc.length + 1) cap' ∧ TItems base w4 A' cap' (acc ++ [t]) := by
  obtain ⟨vs, h1, h2, h3⟩ := h
  have ho := hown4 vs h2
  obtain ⟨A', cap', rfl⟩ := Gn.slice_of ho
  have hl : (acc ++ [t]).length = acc.length + 1 := by simp
  have hsz : W1.heap.size ≤ w4.heap.size := by have := hg.size; simp at this; omega
  have hcell : ∀ r j, r < W1.heap.size → (Value.slice A acc.length cap).ownBlock ≠ some r → w4.cell? ⟨r, j, none⟩ = W1.cell? ⟨r, j, none⟩ := fun r j hr hne => Gn.cell_same ((hg.block r (by simp; omega) (fun e => hne e.symm)).trans (heap_alloc_old W1 o hr)) j
  refine ⟨A', cap', rfl, vs ++ [(x, y)], by simp [h1], by rw [hl, cells2_snoc]; exact ho, fun i hi hi2 => ?_⟩
  rw [hl]
  have hne4 : ∀ r, r < W1.heap.size → (Value.slice A acc.length cap).ownBlock ≠ some r → (Value.slice A' (acc.length + 1) cap').ownBlock ≠ some r := fun r hr hne e => by
    rcases hat with h | h
    · rw [h] at e; exact hne e
    · rw [h] at e; injection e with e; simp at e; omega
  by_cases hi3 : i < acc.length
  · have e1 : (acc ++ [t])[i] = acc[i] := List.getElem_append_left hi3
    have e2 : (vs ++ [(x, y)])[i] = vs[i]'(by omega) := List.getElem_append_left (by omega)
    rw [e1, e2]
    exact (h3 i hi3 (by omega)).keep hsz fun r hp hr => ⟨⟨hp.1, hne4 r hr hp.2⟩, fun j => hcell r j hr hp.2⟩
  · have hie : i = acc.length := by rw [hl] at hi; omega
    subst hie
    have e1 : (acc ++ [t])[acc.length]'hi = t := by simp
    have e2 : (vs ++ [(x, y)])[acc.length]'hi2 = (x, y) := by simp [← h1]
    rw [e1, e2]
    refine hn.keep hsz fun r hp hr => ?_
    have hne : (Value.slice A acc.length cap).ownBlock ≠ some r := fun e => by have := hown r e; omega
    exact ⟨⟨by omega, hne4 r hr hne⟩, fun j => hcell r j hr hne⟩

/-- What tree leaves: a throw, or a tree, new, and the reader at the rest. -/
def TOut (Q : Nat → Prop) (W : World) (k : Nat) (g : PG) (An At_ Ap : Option Addr) (cn ct cp : Nat) (nd : Nat) (R : TRes) (e : Ending) (w' : World) : Prop :=
  match R with
  | .error c => Threw c e ∧ Sep k W.heap.size W w'
  | .ok (t, s', nd') => ∃ (x y : Value) (u' : ByteArray), e = .returned (.agg #[x, y]) ∧ TrAt (fun r => W.heap.size ≤ r) w' t x y ∧ bs u' = s' ∧ u'.size ≤ 9223372036854775807 ∧ nd < nd' ∧ nd' ≤ 65536 ∧ RdAt Q w' k g An At_ Ap cn ct cp u' nd' ∧ Sep k W.heap.size W w'
def TreeCtr (g : PG) (f : Nat) : Prop := ∀ (Q : Nat → Prop) (W : World) (k : Nat) (An At_ Ap : Option Addr) (cn ct cp : Nat) (u : ByteArray) (nd : Nat), u.size ≤ 9223372036854775807 → nd ≤ 65536 → 65537 ≤ f + nd → RdAt Q W k g An At_ Ap cn ct cp u nd → (∀ r, Q r → r < W.heap.size) → ∀ (o : Option Int) (sv : Value), SuchAt W k sv o →
  Calls Try.prog 70 #[.pointer (some ⟨k, 0, none⟩), sv] W (TOut Q W k g An At_ Ap cn ct cp nd (treeR g f o (bs u) nd))
theorem trinfo : (Try.prog.info? 39).map (fun i => (i.zero, i.size, i.bytes)) = some (some (.agg #[.int .i64 0, .slice none 0 0]), 2, 32) := by kernel_rfl

/-- Within tree's loop. -/
structure KAt (Q : Nat → Prop) (W0 : World) (tb k : Nat) (g : PG) (An At_ Ap : Option Addr) (cn ct cp : Nat) (n : Int) (ys : List Int) (uv : Value) (A : Option Addr) (c : Nat) (acc : List Tr) (u : ByteArray) (nd : Nat) (W : World) : Prop where
  rd : RdAt Q W k g An At_ Ap cn ct cp u nd
  res : W.heap[W0.heap.size]? = some (.cells #[.int .i64 0, .slice none 0 0] 39 (0, 0))
  box : W.heap[tb]? = some (.cells #[.int .i64 n, .slice A acc.length c] 39 (0, 0))
  items : TItems (tb + 1) W A c acc
  side : IntsAt Q W ys uv
  sep : Sep k W0.heap.size W0 W
  lts : k < W0.heap.size ∧ W0.heap.size < tb
  old : ∀ r, Q r → r < W0.heap.size
section
variable {Q : Nat → Prop} {W0 W W' : World} {tb k : Nat} {g : PG} {An At_ Ap : Option Addr} {cn ct cp : Nat} {n : Int} {ys : List Int} {uv : Value} {A : Option Addr} {c : Nat} {acc : List Tr} {u u' : ByteArray} {nd nd' : Nat}
theorem KAt.under (h : KAt Q W0 tb k g An At_ Ap cn ct cp n ys uv A c acc u nd W) (b : Below W.heap.size W W') : KAt Q W0 tb k g An At_ Ap cn ct cp n ys uv A c acc u nd W' :=
  ⟨h.rd.under b, (b.block _ (Gn.heap_lt h.res)).trans h.res, (b.block _ (Gn.heap_lt h.box)).trans h.box, h.items.keep b.size (fun r _ hr => b.block r hr), h.side.under b, h.sep.trans ((Sep.of_below (g := k) b).mono h.sep.size), h.lts, h.old⟩
theorem KAt.call (h : KAt Q W0 tb k g An At_ Ap cn ct cp n ys uv A c acc u nd W) (s : Sep k W.heap.size W W') (r : RdAt Q W' k g An At_ Ap cn ct cp u' nd') : KAt Q W0 tb k g An At_ Ap cn ct cp n ys uv A c acc u' nd' W' := by
  obtain ⟨l1, l2⟩ := h.lts
  exact ⟨r, (s.block _ (Gn.heap_lt h.res) (by omega)).trans h.res, (s.block _ (Gn.heap_lt h.box) (by omega)).trans h.box, h.items.keep s.size (fun q hq hr => s.block q hr (by omega)), h.side.keep s.size (fun r hq hr => ⟨hq, fun j => Gn.cell_same (s.block r hr (h.rd.far r hq)) j⟩), h.sep.trans (s.mono h.sep.size), ⟨l1, l2⟩, h.old⟩
theorem KAt.snoc {w4 : World} {lo gq c' : Nat} {t : Tr} {x y : Value} {o : Obj} (h : KAt Q W0 tb k g An At_ Ap cn ct cp n ys uv A c acc u nd W) (hlo : tb + 1 ≤ lo) (hown : ∀ k, (Value.slice A acc.length c).ownBlock = some k → k < lo) (hn : TrAt (fun r => lo ≤ r) W t x y)
    (hown4 : ∀ vs : List (Value × Value), W.ownsRow (tb + 1) 39 2 (.slice A acc.length c) acc.length (cells2 vs) → w4.ownsRow (tb + 1) 39 2 (.slice (some ⟨gq, 0, none⟩) (acc.length + 1) c') (acc.length + 1) (cells2 vs ++ [x, y]))
    (hg : (W.alloc o).grownBy w4 (Value.slice A acc.length c).ownBlock) (hat : (Value.slice A acc.length c).ownBlock = some gq ∨ gq = (W.alloc o).heap.size) :
    w4.heap[tb]? = some (.cells #[.int .i64 n, .slice A acc.length c] 39 (0, 0)) ∧ KAt Q W0 tb k g An At_ Ap cn ct cp n ys uv (some ⟨gq, 0, none⟩) c' (acc ++ [t]) u nd (w4.setCell ⟨tb, 1, none⟩ (.slice (some ⟨gq, 0, none⟩) (acc.length + 1) c')) := by
  obtain ⟨l1, l2⟩ := h.lts
  have hb := h.items.own_lt
  obtain ⟨A2, c2, hv, hit⟩ := h.items.snoc hlo hown hn hown4 hg (hat.elim (fun h => .inl (by rw [h]; rfl)) (fun h => .inr (by subst h; rfl)))
  injection hv with e1 _ e2
  subst e1
  subst e2
  have keep : ∀ q, q < W.heap.size → q ≤ tb → w4.heap[q]? = W.heap[q]? := fun q hq hq2 =>
    (hg.block q (by simp; omega) (fun e => by have := (hb q e.symm).2; omega)).trans (heap_alloc_old W o hq)
  have hlb := Gn.heap_lt h.box
  have hsz : W.heap.size + 1 ≤ w4.heap.size := by have := hg.size; simp at this; omega
  have hb4 := (keep tb hlb (Nat.le_refl _)).trans h.box
  have hset : ∀ q, tb ≠ q → (w4.setCell ⟨tb, 1, none⟩ (.slice (some ⟨gq, 0, none⟩) (acc.length + 1) c')).heap[q]? = w4.heap[q]? := fun q hq => Gn.set_keep w4 1 _ hq
  have hszs : (w4.setCell ⟨tb, 1, none⟩ (.slice (some ⟨gq, 0, none⟩) (acc.length + 1) c')).heap.size = w4.heap.size := by simp [World.setCell]
  have hsep : Sep k W0.heap.size W0 w4 := h.sep.trans ⟨hg.os, hg.tape, hg.output, by omega, fun q hq _ => keep q (by have := h.sep.size; omega) (by omega)⟩
  have hQk : ∀ r, Q r → (w4.setCell ⟨tb, 1, none⟩ (.slice (some ⟨gq, 0, none⟩) (acc.length + 1) c')).heap[r]? = W.heap[r]? := fun r hr => by
    have := h.old r hr
    have := h.sep.size
    exact (hset r (by omega)).trans (keep r (by omega) (by omega))
  refine ⟨hb4, ⟨((hset k (by omega)).trans (keep k (Gn.heap_lt h.rd.box) (by omega))).trans h.rd.box, h.rd.pg.keep (by rw [hszs]; omega) (fun r hr _ => ⟨hr, fun j => Gn.cell_same (hQk r hr) j⟩), h.rd.far⟩, ((hset _ (by omega)).trans (keep _ (Gn.heap_lt h.res) (by omega))).trans h.res, ?_, ?_, h.side.keep (by rw [hszs]; omega) (fun r hr _ => ⟨hr, fun j => Gn.cell_same (hQk r hr) j⟩), hsep.setCell (.inr (by simp; omega)) _, ⟨l1, l2⟩, h.old⟩
  · have := Gn.heap_set hb4 1 (.slice (some ⟨gq, 0, none⟩) (acc.length + 1) c')
    rw [show (acc ++ [t]).length = acc.length + 1 by simp]
    exact this
  · rw [show (Option.some (⟨gq, 0, none⟩ : Addr)) = some ⟨gq, 0, none⟩ from rfl]
    exact hit.keep (by rw [hszs]; exact Nat.le_refl _) fun q hq _ => hset q (by omega)
end

theorem side_is (g : PG) (hf : Fit g) (Q : Nat → Prop) (W : World) (v : Value) (h : PgAt Q W g v) (n : Int) (hn2 : n < (g.prods.length : Int)) : ∃ (Au : Option Addr) (cu : Nat), IntsAt Q W (sideT g n) (.slice Au (sideT g n).length cu) ∧
    ∀ w, Below W.heap.size W w → Calls Try.prog 63 #[v, .int .i64 n] w fun e w' => e = .returned (.slice Au (sideT g n).length cu) ∧ Below w.heap.size w w' := by
  obtain ⟨An, At_, Ap, cn, ct, cp, rfl, hN, hT, hP⟩ := h.open_
  obtain ⟨A2, cap, b, f, e1, hcap, hA, hc⟩ := hP
  injection e1 with e1 e2 e3
  clear e2
  subst e1 e3
  obtain ⟨lp, hlp⟩ : ∃ lp, lp = g.prods.length := ⟨_, rfl⟩
  have h2 := hf.prods
  have HN2 := Lib.hid hn2
  rw [← hlp] at h2 hA hn2
  have HLP := Lib.hid hlp
  by_cases hn : n < 0
  · have hE : sideT g n = [] := by unfold sideT; rw [if_pos hn]
    refine ⟨none, 0, by rw [hE]; exact IntsAt.nil _ _ _ _, fun w bw => ?_⟩
    rw [hE]
    have HB := Lib.hid ((Below.refl w.heap.size w).alloc (Nat.le_refl _) (.cells #[.int .i64 g.start, .int .i64 g.rules, .slice An g.names.length cn, .slice At_ g.terms.length ct, .slice Ap g.prods.length cp] 31))
    clear hlp hE
    go_enter Try.func63, Try.ntmps63
    go_wp2
    go_ret
    exact ⟨rfl, HB.out⟩
  · obtain ⟨k, rfl⟩ : ∃ k : Nat, n = (k : Int) := ⟨n.toNat, by omega⟩
    have hkp : k < g.prods.length := by rw [← hlp]; omega
    obtain ⟨rfl, hbl, hPb⟩ := hA (by omega)
    obtain ⟨q0, q1, q2⟩ := hc k hkp
    have hE : sideT g (k : Int) = g.prods[k].right := by unfold sideT; rw [if_neg hn, dif_pos (by simpa using hkp)]; simp
    have hk2 : k < lp := by omega
    obtain ⟨Aq, cq, eq⟩ := q2.form
    rw [eq] at q1 q2
    rw [← hE] at q1 q2
    refine ⟨Aq, cq, q2, fun w bw => ?_⟩
    have HB := Lib.hid ((Below.refl w.heap.size w).alloc (Nat.le_refl _) (.cells #[.int .i64 g.start, .int .i64 g.rules, .slice An g.names.length cn, .slice At_ g.terms.length ct, .slice (some ⟨b, 0, none⟩) lp cp] 31))
    have y1 := (HB.out.cell (p := ⟨b, k * 2 + 1, none⟩) (Nat.lt_of_lt_of_le hbl bw.size)).trans ((bw.cell (p := ⟨b, k * 2 + 1, none⟩) hbl).trans q1)
    rw [← hlp]
    obtain ⟨m, hm⟩ : ∃ m, m = (sideT g (k : Int)).length := ⟨_, rfl⟩
    rw [← hm] at y1 ⊢
    clear q0 q1 q2 hc eq hA hlp hE hm
    go_enter Try.func63, Try.ntmps63
    go_wp2
    go_ret
    exact ⟨rfl, HB.out⟩

theorem res_set {W : World} {b : Nat} {c0 c1 : Value} {T : TypeId} (h : W.heap[b]? = some (.cells #[c0, c1] T (0, 0))) (x y : Value) : ((W.setCell ⟨b, 0, none⟩ x).setCell ⟨b, 1, none⟩ y).heap[b]? = some (.cells #[x, y] T (0, 0)) := Gn.heap_set (Gn.heap_set h 0 x) 1 y
/-- A panic with these entries, all but the reader as it was. -/
def PanicK (k : Nat) (W : World) (c : Nat) : Exit → Act → World → Prop := fun e a w' => e = .panic [{ v := .iface 60 (.int .i64 c), recovered := false }] ∧ a.defers = [] ∧ Sep k W.heap.size W w'

set_option maxHeartbeats 16000000 in
theorem tree_any (g : PG) (hf : Fit g) (hsd : ∀ n, (sideT g n).length ≤ 1099511627776) : ∀ f, TreeCtr g f
  | 0 => by
    intro Q W k An At_ Ap cn ct cp u nd hu hnd hfu
    omega
  | f + 1 => by
    have IH := Lib.hid (tree_any g hf hsd f)
    have hmf : ∀ (fn : Fn) (first cap : Array Value) (w : World), (Instr.makeFunc fn first cap).run Try.prog w = .ok (.func fn first cap) w := fun _ _ _ _ => rfl
    obtain ⟨i0, hi0, hz0, hz1, hz2⟩ := info_parts trinfo
    intro Q W k An At_ Ap cn ct cp u nd hu hnd hfu h hold o sv hs
    have hb1 := (Below.refl W.heap.size W).alloc (Nat.le_refl _) (.cells #[.int .i64 0, .slice none 0 0] 39)
    have HKN := Lib.hid (node_any Q (W.alloc (.cells #[.int .i64 0, .slice none 0 0] 39)) k g hf An At_ Ap cn ct cp u hu nd hnd (h.under hb1) o sv (hs.under hb1))
    have HSP := Lib.hid (fun w (s : Sep k (W.alloc (.cells #[.int .i64 0, .slice none 0 0] 39)).heap.size (W.alloc (.cells #[.int .i64 0, .slice none 0 0] 39)) w) => (Sep.of_below (g := k) hb1).trans (s.mono (by simp)))
    have hkl := Gn.heap_lt h.box
    have HKL := Lib.hid hkl
    have HR0 := Lib.hid (heap_alloc_new W (.cells #[.int .i64 0, .slice none 0 0] 39))
    have SVF : ∃ f ca, sv = .func (.func f) #[] ca := by
      cases o with
      | none => exact ⟨_, _, hs⟩
      | some y => obtain ⟨B, rfl, _⟩ := hs; exact ⟨_, _, rfl⟩
    obtain ⟨sf, sc, rfl⟩ := SVF
    have HOLD := Lib.hid hold
    have HU := Lib.hid hu
    have HFU := Lib.hid hfu
    rw [treeR]
    clear h hs hb1 hold hu
    cases hN : nodeR g o (bs u) nd with
    | error c =>
      rw [hN] at HKN
      simp only
      clear hN
      go_enter Try.func70, Try.ntmps70
      go_wp2_with fail
      refine HKN.out.mono ?_
      rintro e w1 ⟨he, hs1⟩
      unfold Threw at he
      subst he
      have HS1 := Lib.hid (HSP.out _ hs1)
      clear hs1
      go_wp2
      exact ⟨rfl, rfl, HS1.out⟩
    | ok q =>
      obtain ⟨n, j⟩ := q
      rw [hN] at HKN
      simp only
      obtain ⟨hn6, hnp⟩ := nodeR_ok hN
      have HNP := Lib.hid hnp
      have hn65 : nd + 1 ≤ 65536 := by omega
      clear hN hnp
      obtain ⟨K, hK⟩ : ∃ K, K = kidsG (fun y => treeR g f (some y)) [] (sideT g n) ((bs u).drop j) (nd + 1) := ⟨_, rfl⟩
      rw [← hK]
      obtain ⟨R, hR⟩ : ∃ R : TRes, R = wrapK n K := ⟨_, rfl⟩
      rw [← hR]
      have HK := Lib.hid hK
      have HR := Lib.hid hR
      clear hK hR
      go_enter Try.func70, Try.ntmps70
      go_wp2_with fail
      refine HKN.out.mono ?_
      rintro e w1 ⟨u1, rfl, hu1, hs1, hr1⟩
      have hsz1 := hs1.size
      rw [Gn.size_alloc'] at hsz1
      have hbV := (Below.refl w1.heap.size w1).alloc (Nat.le_refl _) (.cells #[.int .i64 n, .slice none 0 0] 39)
      have hrs := (hs1.block W.heap.size (by simp) (by omega)).trans HR0.out
      obtain ⟨V, hV⟩ : ∃ V, V = w1.alloc (.cells #[.int .i64 n, .slice none 0 0] 39) := ⟨_, rfl⟩
      have htb := heap_alloc_new w1 (.cells #[.int .i64 n, .slice none 0 0] 39)
      rw [← hV] at hbV htb
      have hrV := hr1.under hbV
      obtain ⟨Au, cu, hsu, hkS⟩ := side_is g hf Q V _ hrV.pg n HNP.out
      have hK0 : KAt Q W w1.heap.size k g An At_ Ap cn ct cp n (sideT g n) (.slice Au (sideT g n).length cu) none 0 [] u1 (nd + 1) V :=
        ⟨hrV, (hbV.block _ (by omega)).trans hrs, htb, TItems.nil _ _, hsu, (HSP.out _ hs1).trans ((Sep.of_below (g := k) hbV).mono (by omega)), ⟨HKL.out, by omega⟩, HOLD.out⟩
      have HK0 := Lib.hid hK0
      have HU1 := Lib.hid hu1
      have HUZ := Lib.hid (show u1.size ≤ 9223372036854775807 by
        have h1 : u1.size = (bs u1).length := rfl
        have h2 : u.size = (bs u).length := rfl
        have := HU.out
        rw [h1, hu1, List.length_drop]
        omega)
      have HKS := Lib.hid hkS
      have hsl := hsd n
      obtain ⟨ys, hys⟩ : ∃ ys, ys = sideT g n := ⟨_, rfl⟩
      obtain ⟨m, hm⟩ : ∃ m, m = ys.length := ⟨_, rfl⟩
      rw [← hys] at HK HK0 HKS hsl
      rw [← hm] at HK0 HKS hsl
      have HM := Lib.hid hm
      have W1L := Lib.hid hsz1
      clear hys hm hs1 hr1 hu1 hbV hrs htb hrV hsu hkS hK0 HKN HSP HR0 hsz1
      go_upto_region 2 with fail
      rw [← hV]
      clear hV
      refine LooseD.region_loose (fun w' => Below V.heap.size V w' ∧ w'.heap[k]? = some (.cells #[.int .i64 g.start, .int .i64 g.rules, .slice An g.names.length cn, .slice At_ g.terms.length ct, .slice Ap g.prods.length cp, .string u1, .int .i64 (nd + 1 : Nat)] 103 (0, 0)) ∧ w'.heap[w1.heap.size]? = some (.cells #[.int .i64 n, .slice none 0 0] 39 (0, 0))) _ _ (by kernel_rfl) (by kernel_rfl)
        (LooseD.waits (D := [[], [], [], [], [], [], [], [], []]) (by kernel_rfl))
        (LooseD.stays (ts := [none, none, none, none, none, none, some (.is (.slice Au m cu)), none, none]) (fun w w' h b => ⟨h.1.trans (b.mono h.1.size), (b.block _ (Gn.heap_lt h.2.1)).trans h.2.1, (b.block _ (Gn.heap_lt h.2.2)).trans h.2.2⟩) (.none (.none (.none (.none (.none (.none (.is (.none (.none .nil))))))))))
        ⟨(Below.refl _ _).drew, HK0.out.rd.box, HK0.out.box⟩ ?_
      refine LooseD.reads (.pointer (some ⟨k, 0, none⟩)) rfl rfl ?_ ?_
      · intro w hw
        clear hw
        go_simp
      try simp only [Act.put, List.setIfInBounds_toArray, List.set_cons_zero, List.set_cons_succ]
      refine LooseD.reads (.pointer (some ⟨k, 0, none⟩)) rfl rfl ?_ ?_
      · intro w hw
        have y0 := cell_of_row _ _ 0 _ _ (0, 0) hw.2.1
        have y1 := cell_of_row _ _ 1 _ _ (0, 0) hw.2.1
        have y2 := cell_of_row _ _ 2 _ _ (0, 0) hw.2.1
        have y3 := cell_of_row _ _ 3 _ _ (0, 0) hw.2.1
        have y4 := cell_of_row _ _ 4 _ _ (0, 0) hw.2.1
        have y5 := cell_of_row _ _ 5 _ _ (0, 0) hw.2.1
        have y6 := cell_of_row _ _ 6 _ _ (0, 0) hw.2.1
        clear hw
        go_simp
      try simp only [Act.put, List.setIfInBounds_toArray, List.set_cons_zero, List.set_cons_succ]
      refine LooseD.reads (.pointer (some ⟨k, 0, none⟩)) rfl rfl ?_ ?_
      · intro w hw
        clear hw
        go_simp
      try simp only [Act.put, List.setIfInBounds_toArray, List.set_cons_zero, List.set_cons_succ]
      refine LooseD.reads (.agg #[.int .i64 g.start, .int .i64 g.rules, .slice An g.names.length cn, .slice At_ g.terms.length ct, .slice Ap g.prods.length cp]) rfl rfl ?_ ?_
      · intro w hw
        have y0 := cell_of_row _ _ 0 _ _ (0, 0) hw.2.1
        have y1 := cell_of_row _ _ 1 _ _ (0, 0) hw.2.1
        have y2 := cell_of_row _ _ 2 _ _ (0, 0) hw.2.1
        have y3 := cell_of_row _ _ 3 _ _ (0, 0) hw.2.1
        have y4 := cell_of_row _ _ 4 _ _ (0, 0) hw.2.1
        have y5 := cell_of_row _ _ 5 _ _ (0, 0) hw.2.1
        have y6 := cell_of_row _ _ 6 _ _ (0, 0) hw.2.1
        clear hw
        go_simp
      try simp only [Act.put, List.setIfInBounds_toArray, List.set_cons_zero, List.set_cons_succ]
      refine LooseD.reads (.pointer (some ⟨w1.heap.size, 0, none⟩)) rfl rfl ?_ ?_
      · intro w hw
        clear hw
        go_simp
      try simp only [Act.put, List.setIfInBounds_toArray, List.set_cons_zero, List.set_cons_succ]
      refine LooseD.reads (.int .i64 n) rfl rfl ?_ ?_
      · intro w hw
        have z0 := cell_of_row _ _ 0 _ _ (0, 0) hw.2.2
        have z1 := cell_of_row _ _ 1 _ _ (0, 0) hw.2.2
        clear hw
        go_simp
      try simp only [Act.put, List.setIfInBounds_toArray, List.set_cons_zero, List.set_cons_succ]
      refine LooseD.gives (.slice Au m cu) 63 #[.agg #[.int .i64 g.start, .int .i64 g.rules, .slice An g.names.length cn, .slice At_ g.terms.length ct, .slice Ap g.prods.length cp], .int .i64 n] rfl rfl ?_ (fun w hw hH => HKS.out w hw.1) ?_
      · intro w hw
        clear hw
        go_simp
      try simp only [Act.put, List.setIfInBounds_toArray, List.set_cons_zero, List.set_cons_succ]
      refine LooseD.reads (.int .i64 m) rfl rfl ?_ ?_
      · intro w hw
        clear hw
        go_simp
      try simp only [Act.put, List.setIfInBounds_toArray, List.set_cons_zero, List.set_cons_succ]
      refine LooseD.reads (.int .i64 0) rfl rfl ?_ ?_
      · intro w hw
        clear hw
        go_simp
      try simp only [Act.put, List.setIfInBounds_toArray, List.set_cons_zero, List.set_cons_succ]
      refine LooseD.done ?_
      intro w7 hw7 hF
      have HK7 := Lib.hid (HK0.out.under hw7.1)
      clear hw7 hF HKS HK0
      go_wp2_with fail
      go_loopw [20] (fun i wr => ∃ (q : Nat) (A : Option Addr) (c : Nat) (acc : List Tr) (u' : ByteArray) (nd' : Nat), q ≤ m ∧ i = .int .i64 q ∧ KAt Q W w1.heap.size k g An At_ Ap cn ct cp n ys (.slice Au m cu) A c acc u' nd' wr ∧ kidsG (fun y => treeR g f (some y)) acc (ys.drop q) (bs u') nd' = K ∧ acc.length = q ∧ u'.size ≤ 9223372036854775807 ∧ nd < nd' ∧ nd' ≤ 65536) (fun i _ => m - (intOf i).toNat)
      case atStart => exact ⟨0, none, 0, [], u1, nd + 1, Nat.zero_le _, rfl, HK7.out, by rw [List.drop_zero, HU1.out]; exact HK.out.symm, rfl, HUZ.out, by omega, hn65⟩
      case round =>
        obtain ⟨q, A, c, acc, u2, nd2, hq, rfl, hA, hKK, hal, hu2, hn1, hn2⟩ := hrel
        have HAL := Lib.hid hal
        have hal2 : acc.length ≤ m := by omega
        clear hal
        have HA := Lib.hid hA
        by_cases hqm : q < m
        · have hqm2 : (q : Int) < (m : Int) := by omega
          have hql : q < ys.length := by rw [← HM.out]; exact hqm
          obtain ⟨A9, c9, b9, e9, hc9, h39, h49⟩ := hA.side
          injection e9 with e91 e92 e93
          clear e92
          subst e91 e93
          obtain ⟨rfl, hb9, hQ9⟩ := h39 (by omega)
          have x0 := h49 q hql
          rw [List.drop_eq_getElem_cons hql, kidsG] at hKK
          obtain ⟨y, hy⟩ : ∃ y, y = ys[q] := ⟨_, rfl⟩
          rw [← hy] at x0 hKK
          have hbB := (Below.refl wr.heap.size wr).alloc (Nat.le_refl _) (.cells #[.int .i64 y] 3)
          have hBn := heap_alloc_new wr (.cells #[.int .i64 y] 3)
          obtain ⟨wb, hwb⟩ : ∃ wb, wb = wr.alloc (.cells #[.int .i64 y] 3) := ⟨_, rfl⟩
          rw [← hwb] at hbB hBn
          have HAB := Lib.hid (hA.under hbB)
          have HBD := Lib.hid ((hA.under hbB).under (Gn.below_drew (Below.refl _ _)))
          have hwz : wb.heap.size = wr.heap.size + 1 := by rw [hwb]; simp
          have HWZ := Lib.hid hwz
          have HTC := Lib.hid (IH.out Q wb.drew k An At_ Ap cn ct cp u2 nd2 hu2 hn2 (by have := HFU.out; omega) HBD.out.rd (fun r hr => by have := HOLD.out r hr; have := hA.sep.size; have h5 : wb.drew.heap.size = wb.heap.size := rfl; omega) (some y) (.func (.func 88) #[] #[.pointer (some ⟨wr.heap.size, 0, none⟩)]) ⟨_, rfl, hBn, by have := Gn.heap_lt hA.rd.box; omega⟩)
          have o1 : wb.cell? ⟨w1.heap.size, 1, none⟩ = some (.slice A acc.length c) := cell_of_row _ _ 1 _ _ (0, 0) HAB.out.box
          clear hA hy hbB hBn h39 h49
          cases hT : treeR g f (some y) (bs u2) nd2 with
          | error ec =>
            rw [hT] at HTC hKK
            simp only at hKK
            have hR2 : R = .error ec := by rw [HR.out, ← hKK]; rfl
            subst hR2
            go_upto_region 5 with fail
            rw [← hwb]
            clear hwb
            refine Code.wp_mono (Q := PanicK k W ec) ?himp ?hmain
            case hmain =>
                refine wp_region_held_drew (S := (fun _ => True)) (by kernel_rfl) ?_ (fun hHeld => ?_)
                · trivial
                refine wpAnyH_take (i := 0) (v := ?_) rfl (by kernel_rfl) (by kernel_rfl) (by kernel_rfl) (fun _ _ _ h => h) (Or.inl ⟨by rfl, ?_⟩) (by assumption) ?_
                rotate_left
                · intro w hSw
                  try dsimp only at hSw
                  go_simp
                  try with_reducible rfl
                try simp only [Act.put, List.setIfInBounds_toArray, List.set_cons_zero, List.set_cons_succ]
                refine wpAnyH_take (i := 2) (v := ?_) rfl (by kernel_rfl) (by kernel_rfl) (by kernel_rfl) (fun _ _ _ h => h) (Or.inl ⟨by rfl, ?_⟩) (by assumption) ?_
                rotate_left
                · intro w hSw
                  try dsimp only at hSw
                  go_simp
                  try with_reducible rfl
                try simp only [Act.put, List.setIfInBounds_toArray, List.set_cons_zero, List.set_cons_succ]
                refine wpAnyH_take (i := 3) (v := ?_) rfl (by kernel_rfl) (by kernel_rfl) (by kernel_rfl) (fun _ _ _ h => h) (Or.inl ⟨by rfl, ?_⟩) (by assumption) ?_
                rotate_left
                · intro w hSw
                  try dsimp only at hSw
                  go_simp
                  try with_reducible rfl
                try simp only [Act.put, List.setIfInBounds_toArray, List.set_cons_zero, List.set_cons_succ]
                refine wpAnyH_ready (rs := [1, 4]) (by kernel_rfl) (by simp) ?_
                refine AllReadyH.cons rfl (fun K hK => ?_) ?_
                · go_simp
                  refine hK.out _ _ (trivial) (fun hHeld => ?_)
                  clear hK K
                  try simp only [Act.put, List.setIfInBounds_toArray, List.set_cons_zero, List.set_cons_succ]
                  refine wpAnyH_ready (rs := [4]) (by kernel_rfl) (by simp) ?_
                  refine AllReadyH.cons rfl (fun K hK => ?_) AllReadyH.nil
                  go_simp
                  go_at_call 70
                  refine HTC.out.mono ?_
                  rintro e w3 ⟨he, hs3⟩
                  unfold Threw at he
                  subst he
                  exact ⟨rfl, rfl, HBD.out.sep.trans (hs3.mono HBD.out.sep.size)⟩
                refine AllReadyH.cons rfl (fun K hK => ?_) AllReadyH.nil
                · go_simp
                  go_at_call 70
                  refine HTC.out.mono ?_
                  rintro e w3 ⟨he, hs3⟩
                  unfold Threw at he
                  subst he
                  exact ⟨rfl, rfl, HBD.out.sep.trans (hs3.mono HBD.out.sep.size)⟩
            case himp =>
              rintro e a w' ⟨rfl, hd, hfin⟩
              go_wp2
              exact ⟨hd, rfl, hfin⟩
          | ok p =>
            obtain ⟨t, s3, nd3⟩ := p
            rw [hT] at HTC hKK
            simp only at hKK
            have HKK := Lib.hid hKK
            have HOW := Lib.hid HBD.out.items.own_lt
            have hTB := Gn.heap_lt HBD.out.box
            have HTB := Lib.hid hTB
            clear hKK
            go_upto_region 5 with fail
            rw [← hwb]
            clear hwb
            refine wp_region_noPanic ?_
            refine wp_region_held_drew (S := (fun _ => True)) (by kernel_rfl) ?_ (fun hHeld => ?_)
            · exact trivial
            refine wpAnyH_take (i := 0) (v := ?_) rfl (by kernel_rfl) (by kernel_rfl) (by kernel_rfl) (fun _ _ _ h => h) (Or.inl ⟨by rfl, ?_⟩) (by assumption) ?_
            rotate_left
            · intro w hSw
              try dsimp only at hSw
              go_simp
              try with_reducible rfl
            try simp only [Act.put, List.setIfInBounds_toArray, List.set_cons_zero, List.set_cons_succ]
            refine wpAnyH_take (i := 2) (v := ?_) rfl (by kernel_rfl) (by kernel_rfl) (by kernel_rfl) (fun _ _ _ h => h) (Or.inl ⟨by rfl, ?_⟩) (by assumption) ?_
            rotate_left
            · intro w hSw
              try dsimp only at hSw
              go_simp
              try with_reducible rfl
            try simp only [Act.put, List.setIfInBounds_toArray, List.set_cons_zero, List.set_cons_succ]
            refine wpAnyH_take (i := 3) (v := ?_) rfl (by kernel_rfl) (by kernel_rfl) (by kernel_rfl) (fun _ _ _ h => h) (Or.inl ⟨by rfl, ?_⟩) (by assumption) ?_
            rotate_left
            · intro w hSw
              try dsimp only at hSw
              go_simp
              try with_reducible rfl
            try simp only [Act.put, List.setIfInBounds_toArray, List.set_cons_zero, List.set_cons_succ]
            refine wpAnyH_ready (rs := [1, 4]) (by kernel_rfl) (by simp) ?_
            refine AllReadyH.cons rfl (fun K hK => ?_) ?_
            · go_simp
              refine hK.out _ _ (trivial) (fun hHeld => ?_)
              clear hK K
              try simp only [Act.put, List.setIfInBounds_toArray, List.set_cons_zero, List.set_cons_succ]
              refine wpAnyH_ready (rs := [4]) (by kernel_rfl) (by simp) ?_
              refine AllReadyH.cons rfl (fun K hK => ?_) AllReadyH.nil
              go_simp
              go_at_call 70
              refine HTC.out.mono ?_
              rintro e w3 ⟨x, yv, u3, rfl, htr, hu3, hus3, hlt3, hle3, hrd3, hs3⟩
              have hK3 := HBD.out.call hs3 hrd3
              obtain ⟨vs, hv1, hv2, hv3⟩ := hK3.items
              have d2 : w3.cell? ⟨w1.heap.size, 1, none⟩ = some (.slice A acc.length c) := cell_of_row _ _ 1 _ _ (0, 0) hK3.box
              have hnb3 := Gn.heap_lt hK3.box
              have d2a := fun o : Obj => (((Below.refl w3.heap.size w3).alloc (Nat.le_refl _) o).cell (p := ⟨w1.heap.size, 1, none⟩) hnb3).trans d2
              obtain ⟨kn, kA, km, kc, rfl, rfl⟩ := htr.form
              have HV := Lib.hid hv2
              have HK3 := Lib.hid hK3
              have HTR := Lib.hid htr
              have HU3 := Lib.hid hu3
              have HS3 := Lib.hid hs3.size
              clear hK3 hrd3 hs3 htr hv1 hv2 hv3 hu3
              refine hK.out _ _ (trivial) (fun hHeld => ?_)
              clear hK K
              try simp only [Act.put, List.setIfInBounds_toArray, List.set_cons_zero, List.set_cons_succ]
              refine wpAnyH_ready (rs := [5]) (by kernel_rfl) (by simp) ?_
              refine AllReadyH.cons rfl (fun K hK => ?_) AllReadyH.nil
              go_simp
              refine hK.out _ _ (trivial) (fun hHeld => ?_)
              clear hK K
              try simp only [Act.put, List.setIfInBounds_toArray, List.set_cons_zero, List.set_cons_succ]
              refine wpAnyH_ready (rs := [6]) (by kernel_rfl) (by simp) ?_
              refine AllReadyH.cons rfl (fun K hK => ?_) AllReadyH.nil
              refine step_append_lies _ (by rfl) (.tmp 25) (.tmp 29) 37 (by rfl) (w1.heap.size + 1) 39 i0 _ 2 32 Try.underlying37 hi0 hz0 hz1 hz2 rfl (by decide) (.slice A acc.length c) acc.length (cells2 vs) (by simp [Act.eval]) (HV.out.alloc _) ⟨w3.heap.size, 0, none⟩ 1 1 [.int .i64 kn, .slice kA km kc] (by simp [Act.eval]) rfl (Gn.row_new w3 [.int .i64 kn, .slice kA km kc] 39 w3.heap.size rfl) (by simp [Value.oneCell']) (by decide) (by unfold maxLen; omega) (by omega) (by simp; omega) _ rfl ?_
              intro gq cap4 w4 hown4 hgrow4 hat4 hlt4
              have h4 := HK3.out.snoc (lo := wb.heap.size) (t := t) (gq := gq) (c' := cap4) (by have := HTB.out; have h5 : wb.drew.heap.size = wb.heap.size := rfl; omega) (fun k hk => (HOW.out k hk).1) HTR.out (fun vs4 hv4 => by rw [Gn.owns_uniq hv4 HV.out]; exact hown4) hgrow4 hat4
              have u9 : w4.cell? ⟨w1.heap.size, 1, none⟩ = some (.slice A acc.length c) := cell_of_row _ _ 1 _ _ (0, 0) h4.1
              have uf9 := frozen_of_row w4 w1.heap.size 1 _ _ h4.1
              have H4 := Lib.hid h4.2
              clear h4 hown4 hgrow4 hat4 hlt4
              refine hK.out _ _ (trivial) (fun hHeld => ?_)
              clear hK K
              try simp only [Act.put, List.setIfInBounds_toArray, List.set_cons_zero, List.set_cons_succ]
              refine wpAnyH_take (i := 7) (v := ?_) rfl (by kernel_rfl) (by kernel_rfl) (by kernel_rfl) (fun _ _ _ h => h) (Or.inl ⟨by rfl, ?_⟩) (by assumption) ?_
              rotate_left
              · intro w hSw
                try dsimp only at hSw
                go_simp
                try with_reducible rfl
              try simp only [Act.put, List.setIfInBounds_toArray, List.set_cons_zero, List.set_cons_succ]
              refine wpAnyH_ready (rs := [8]) (by kernel_rfl) (by simp) ?_
              refine AllReadyH.cons rfl (fun K hK => ?_) AllReadyH.nil
              go_simp
              refine hK.out _ _ (trivial) (fun hHeld => ?_)
              clear hK K
              try simp only [Act.put, List.setIfInBounds_toArray, List.set_cons_zero, List.set_cons_succ]
              refine wpAnyH_done (by kernel_rfl) ?_ _
              refine NoPanic.normal ?_
              go_wp2
              go_roundw
              case rel => exact ⟨q + 1, some ⟨gq, 0, none⟩, cap4, acc ++ [t], u3, nd3, by omega, by simp, H4.out, by rw [HU3.out]; exact HKK.out, by simp [HAL.out], hus3, by omega, hle3⟩
              case measure => simp [intOf]; omega
            refine AllReadyH.cons rfl (fun K hK => ?_) AllReadyH.nil
            · go_simp
              go_at_call 70
              refine HTC.out.mono ?_
              rintro e w3 ⟨x, yv, u3, rfl, htr, hu3, hus3, hlt3, hle3, hrd3, hs3⟩
              have hK3 := HBD.out.call hs3 hrd3
              obtain ⟨vs, hv1, hv2, hv3⟩ := hK3.items
              have d2 : w3.cell? ⟨w1.heap.size, 1, none⟩ = some (.slice A acc.length c) := cell_of_row _ _ 1 _ _ (0, 0) hK3.box
              have hnb3 := Gn.heap_lt hK3.box
              have d2a := fun o : Obj => (((Below.refl w3.heap.size w3).alloc (Nat.le_refl _) o).cell (p := ⟨w1.heap.size, 1, none⟩) hnb3).trans d2
              obtain ⟨kn, kA, km, kc, rfl, rfl⟩ := htr.form
              have HV := Lib.hid hv2
              have HK3 := Lib.hid hK3
              have HTR := Lib.hid htr
              have HU3 := Lib.hid hu3
              have HS3 := Lib.hid hs3.size
              clear hK3 hrd3 hs3 htr hv1 hv2 hv3 hu3
              refine hK.out _ _ (trivial) (fun hHeld => ?_)
              clear hK K
              try simp only [Act.put, List.setIfInBounds_toArray, List.set_cons_zero, List.set_cons_succ]
              refine wpAnyH_ready (rs := [1, 5]) (by kernel_rfl) (by simp) ?_
              refine AllReadyH.cons rfl (fun K hK => ?_) ?_
              · go_simp
                refine hK.out _ _ (trivial) (fun hHeld => ?_)
                clear hK K
                try simp only [Act.put, List.setIfInBounds_toArray, List.set_cons_zero, List.set_cons_succ]
                refine wpAnyH_ready (rs := [5]) (by kernel_rfl) (by simp) ?_
                refine AllReadyH.cons rfl (fun K hK => ?_) AllReadyH.nil
                go_simp
                refine hK.out _ _ (trivial) (fun hHeld => ?_)
                clear hK K
                try simp only [Act.put, List.setIfInBounds_toArray, List.set_cons_zero, List.set_cons_succ]
                refine wpAnyH_ready (rs := [6]) (by kernel_rfl) (by simp) ?_
                refine AllReadyH.cons rfl (fun K hK => ?_) AllReadyH.nil
                refine step_append_lies _ (by rfl) (.tmp 25) (.tmp 29) 37 (by rfl) (w1.heap.size + 1) 39 i0 _ 2 32 Try.underlying37 hi0 hz0 hz1 hz2 rfl (by decide) (.slice A acc.length c) acc.length (cells2 vs) (by simp [Act.eval]) (HV.out.alloc _) ⟨w3.heap.size, 0, none⟩ 1 1 [.int .i64 kn, .slice kA km kc] (by simp [Act.eval]) rfl (Gn.row_new w3 [.int .i64 kn, .slice kA km kc] 39 w3.heap.size rfl) (by simp [Value.oneCell']) (by decide) (by unfold maxLen; omega) (by omega) (by simp; omega) _ rfl ?_
                intro gq cap4 w4 hown4 hgrow4 hat4 hlt4
                have h4 := HK3.out.snoc (lo := wb.heap.size) (t := t) (gq := gq) (c' := cap4) (by have := HTB.out; have h5 : wb.drew.heap.size = wb.heap.size := rfl; omega) (fun k hk => (HOW.out k hk).1) HTR.out (fun vs4 hv4 => by rw [Gn.owns_uniq hv4 HV.out]; exact hown4) hgrow4 hat4
                have u9 : w4.cell? ⟨w1.heap.size, 1, none⟩ = some (.slice A acc.length c) := cell_of_row _ _ 1 _ _ (0, 0) h4.1
                have uf9 := frozen_of_row w4 w1.heap.size 1 _ _ h4.1
                have H4 := Lib.hid h4.2
                clear h4 hown4 hgrow4 hat4 hlt4
                refine hK.out _ _ (trivial) (fun hHeld => ?_)
                clear hK K
                try simp only [Act.put, List.setIfInBounds_toArray, List.set_cons_zero, List.set_cons_succ]
                refine wpAnyH_take (i := 7) (v := ?_) rfl (by kernel_rfl) (by kernel_rfl) (by kernel_rfl) (fun _ _ _ h => h) (Or.inl ⟨by rfl, ?_⟩) (by assumption) ?_
                rotate_left
                · intro w hSw
                  try dsimp only at hSw
                  go_simp
                  try with_reducible rfl
                try simp only [Act.put, List.setIfInBounds_toArray, List.set_cons_zero, List.set_cons_succ]
                refine wpAnyH_ready (rs := [8]) (by kernel_rfl) (by simp) ?_
                refine AllReadyH.cons rfl (fun K hK => ?_) AllReadyH.nil
                go_simp
                refine hK.out _ _ (trivial) (fun hHeld => ?_)
                clear hK K
                try simp only [Act.put, List.setIfInBounds_toArray, List.set_cons_zero, List.set_cons_succ]
                refine wpAnyH_done (by kernel_rfl) ?_ _
                refine NoPanic.normal ?_
                go_wp2
                go_roundw
                case rel => exact ⟨q + 1, some ⟨gq, 0, none⟩, cap4, acc ++ [t], u3, nd3, by omega, by simp, H4.out, by rw [HU3.out]; exact HKK.out, by simp [HAL.out], hus3, by omega, hle3⟩
                case measure => simp [intOf]; omega
              refine AllReadyH.cons rfl (fun K hK => ?_) AllReadyH.nil
              · go_simp
                refine hK.out _ _ (trivial) (fun hHeld => ?_)
                clear hK K
                try simp only [Act.put, List.setIfInBounds_toArray, List.set_cons_zero, List.set_cons_succ]
                refine wpAnyH_ready (rs := [1]) (by kernel_rfl) (by simp) ?_
                refine AllReadyH.cons rfl (fun K hK => ?_) AllReadyH.nil
                go_simp
                refine hK.out _ _ (trivial) (fun hHeld => ?_)
                clear hK K
                try simp only [Act.put, List.setIfInBounds_toArray, List.set_cons_zero, List.set_cons_succ]
                refine wpAnyH_ready (rs := [6]) (by kernel_rfl) (by simp) ?_
                refine AllReadyH.cons rfl (fun K hK => ?_) AllReadyH.nil
                refine step_append_lies _ (by rfl) (.tmp 25) (.tmp 29) 37 (by rfl) (w1.heap.size + 1) 39 i0 _ 2 32 Try.underlying37 hi0 hz0 hz1 hz2 rfl (by decide) (.slice A acc.length c) acc.length (cells2 vs) (by simp [Act.eval]) (HV.out.alloc _) ⟨w3.heap.size, 0, none⟩ 1 1 [.int .i64 kn, .slice kA km kc] (by simp [Act.eval]) rfl (Gn.row_new w3 [.int .i64 kn, .slice kA km kc] 39 w3.heap.size rfl) (by simp [Value.oneCell']) (by decide) (by unfold maxLen; omega) (by omega) (by simp; omega) _ rfl ?_
                intro gq cap4 w4 hown4 hgrow4 hat4 hlt4
                have h4 := HK3.out.snoc (lo := wb.heap.size) (t := t) (gq := gq) (c' := cap4) (by have := HTB.out; have h5 : wb.drew.heap.size = wb.heap.size := rfl; omega) (fun k hk => (HOW.out k hk).1) HTR.out (fun vs4 hv4 => by rw [Gn.owns_uniq hv4 HV.out]; exact hown4) hgrow4 hat4
                have u9 : w4.cell? ⟨w1.heap.size, 1, none⟩ = some (.slice A acc.length c) := cell_of_row _ _ 1 _ _ (0, 0) h4.1
                have uf9 := frozen_of_row w4 w1.heap.size 1 _ _ h4.1
                have H4 := Lib.hid h4.2
                clear h4 hown4 hgrow4 hat4 hlt4
                refine hK.out _ _ (trivial) (fun hHeld => ?_)
                clear hK K
                try simp only [Act.put, List.setIfInBounds_toArray, List.set_cons_zero, List.set_cons_succ]
                refine wpAnyH_take (i := 7) (v := ?_) rfl (by kernel_rfl) (by kernel_rfl) (by kernel_rfl) (fun _ _ _ h => h) (Or.inl ⟨by rfl, ?_⟩) (by assumption) ?_
                rotate_left
                · intro w hSw
                  try dsimp only at hSw
                  go_simp
                  try with_reducible rfl
                try simp only [Act.put, List.setIfInBounds_toArray, List.set_cons_zero, List.set_cons_succ]
                refine wpAnyH_ready (rs := [8]) (by kernel_rfl) (by simp) ?_
                refine AllReadyH.cons rfl (fun K hK => ?_) AllReadyH.nil
                go_simp
                refine hK.out _ _ (trivial) (fun hHeld => ?_)
                clear hK K
                try simp only [Act.put, List.setIfInBounds_toArray, List.set_cons_zero, List.set_cons_succ]
                refine wpAnyH_done (by kernel_rfl) ?_ _
                refine NoPanic.normal ?_
                go_wp2
                go_roundw
                case rel => exact ⟨q + 1, some ⟨gq, 0, none⟩, cap4, acc ++ [t], u3, nd3, by omega, by simp, H4.out, by rw [HU3.out]; exact HKK.out, by simp [HAL.out], hus3, by omega, hle3⟩
                case measure => simp [intOf]; omega
        · have hjm2 : ¬ (q : Int) < (m : Int) := by omega
          rw [List.drop_of_length_le (by rw [← HM.out]; omega), kidsG] at hKK
          have hR2 : R = .ok (.mk n acc, bs u2, nd2) := by rw [HR.out, ← hKK]; rfl
          subst hR2
          have t0 := cell_of_row _ _ 0 _ _ (0, 0) HA.out.box
          have t1 := cell_of_row _ _ 1 _ _ (0, 0) HA.out.box
          have r0 := cell_of_row _ _ 0 _ _ (0, 0) HA.out.res
          have r1 := cell_of_row _ _ 1 _ _ (0, 0) HA.out.res
          have rf0 := frozen_of_row wr W.heap.size 0 _ _ HA.out.res
          have rf1 := frozen_of_row wr W.heap.size 1 _ _ HA.out.res
          have hrs := res_set HA.out.res (.int .i64 n) (.slice A acc.length c)
          have HRS := Lib.hid hrs
          have hk2 : ∀ b, W.heap.size ≠ b → ((wr.setCell ⟨W.heap.size, 0, none⟩ (.int .i64 n)).setCell ⟨W.heap.size, 1, none⟩ (.slice A acc.length c)).heap[b]? = wr.heap[b]? := fun b hb => (Gn.set_keep _ 1 _ hb).trans (Gn.set_keep _ 0 _ hb)
          have hsz2 : ((wr.setCell ⟨W.heap.size, 0, none⟩ (.int .i64 n)).setCell ⟨W.heap.size, 1, none⟩ (.slice A acc.length c)).heap.size = wr.heap.size := by simp [World.setCell]
          have HF := Lib.hid (show TOut Q W k g An At_ Ap cn ct cp nd (.ok (.mk n acc, bs u2, nd2)) (.returned (.agg #[.int .i64 n, .slice A acc.length c])) ((wr.setCell ⟨W.heap.size, 0, none⟩ (.int .i64 n)).setCell ⟨W.heap.size, 1, none⟩ (.slice A acc.length c)) from by
            obtain ⟨l1, l2⟩ := HA.out.lts
            refine ⟨_, _, u2, rfl, (HA.out.items.trs.tree n).keep (by rw [hsz2]; exact Nat.le_refl _) (fun r hr _ => ⟨by omega, fun j => Gn.cell_same (hk2 r (by omega)) j⟩), rfl, hu2, hn1, hn2, ⟨(hk2 k (by omega)).trans HA.out.rd.box, HA.out.rd.pg.keep (by rw [hsz2]; exact Nat.le_refl _) (fun r hr _ => ⟨hr, fun j => Gn.cell_same (hk2 r (by have := HA.out.old r hr; omega)) j⟩), HA.out.rd.far⟩, (HA.out.sep.setCell (.inr (Nat.le_refl _)) _).setCell (.inr (Nat.le_refl _)) _⟩)
          clear hrs hk2 hsz2 hKK
          go_wp2
          exact bodyPost_ret (results_cell_row rfl _ _ W.heap.size 39 _ (0, 0) _ rfl HRS.out Try.underlying39 rfl rfl) rfl HF.out

end Go.Proofs.Ytdknlifpoihnmaa.Tr

