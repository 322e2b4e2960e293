/-
  Layer 18: a roll that is copied.
-/
import Derived.Test.YtnmhgjoofgmcgaaGreatRlCopy
namespace Go.Proofs.YtnmhgjoofgmcgaaGreat.Rl
open Go.RowKit
open Fx (StrsAt)
set_option maxRecDepth 100000
set_option linter.unusedSimpArgs false
set_option linter.unusedVariables false
theorem cells_set {α : Type} {enc : α → List Value} (he : ∀ x, (enc x).length = 3) {a b c : Value} (x : α) (hx : enc x = [a, b, c]) : ∀ (l : List α) (k : Nat), k < l.length → (((cellsOf enc l).set (k * 3) a).set (k * 3 + 1) b).set (k * 3 + 2) c = cellsOf enc (l.set k x)
  | [], k, h => absurd h (by simp)
  | y :: r, 0, h => by
    have hy := he y
    match hq : enc y, hy with
    | [p, q, s], _ =>
      show (((enc y ++ cellsOf enc r).set (0 * 3) a).set (0 * 3 + 1) b).set (0 * 3 + 2) c = enc x ++ cellsOf enc r
      rw [hq, hx]
      rfl
  | y :: r, k + 1, h => by
    have ih := cells_set he x hx r k (by simpa using h)
    have hy := he y
    match hq : enc y, hy with
    | [p, q, s], _ =>
      show (((enc y ++ cellsOf enc r).set ((k + 1) * 3) a).set ((k + 1) * 3 + 1) b).set ((k + 1) * 3 + 2) c = enc y ++ cellsOf enc (r.set k x)
      rw [hq, ← ih, show (k + 1) * 3 = k * 3 + 1 + 1 + 1 by omega]
      rfl
theorem own_set3 {α : Type} {enc : α → List Value} (he : ∀ x, (enc x).length = 3) {w : World} {base g cap n k : Nat} {T : TypeId} {l : List α} (h : w.ownsRow base T 3 (.slice (some ⟨g, 0, none⟩) n cap) n (cellsOf enc l)) (hl : l.length = n) (hk : k < n) {a b c : Value} (x : α) (hx : enc x = [a, b, c]) :
    (((w.setCell ⟨g, k * 3, none⟩ a).setCell ⟨g, k * 3 + 1, none⟩ b).setCell ⟨g, k * 3 + 2, none⟩ c).ownsRow base T 3 (.slice (some ⟨g, 0, none⟩) n cap) n (cellsOf enc (l.set k x)) := by
  refine ⟨by rw [cellsOf_len he, List.length_set, hl], ?_⟩
  rcases h.2 with ⟨h0, _⟩ | ⟨g', cap', cur, h0, h1, h2, h3, h4, h5, h6⟩
  · cases h0
  · injection h0 with h0 _ h0c
    injection h0 with h0
    injection h0 with h0
    subst h0
    subst h0c
    refine .inr ⟨g, cap, _, rfl, h1, Gn.heap_set (Gn.heap_set (Gn.heap_set h2 (k * 3) a) (k * 3 + 1) b) (k * 3 + 2) c, h3, h4, by simpa using h5, ?_⟩
    rw [← cells_set he x hx l k (by omega), ← h6]
    simp only [Array.toList_setIfInBounds]
    rw [List.take_set, List.take_set, List.take_set]
/-- What a copied roll is. -/
structure Cop (W w : World) (r : Rol) (raws : List CRaw) (vm vc : Value) : Prop where
  ms : w.ownsRow W.heap.size 45 3 vm r.ms.length (cellsOf encM r.ms)
  cs : w.ownsRow W.heap.size 53 3 vc r.cs.length (cellsOf encC raws)
  all : AllC (fun b => W.heap.size ≤ b ∧ vm.ownBlock ≠ some b ∧ vc.ownBlock ≠ some b) w raws r.cs
  own : ∀ (i : Nat) (h : i < raws.length) (h2 : i < r.cs.length), w.ownsRow W.heap.size 9 1 raws[i].studs r.cs[i].studs.length (r.cs[i].studs.map Value.string) ∧ ∀ b, raws[i].studs.ownBlock = some b → vm.ownBlock ≠ some b ∧ vc.ownBlock ≠ some b
  dis : ∀ (i j : Nat) (h : i < raws.length) (h2 : j < raws.length), i < j → ∀ b, raws[i].studs.ownBlock = some b → raws[j].studs.ownBlock ≠ some b
  ne : ∀ k, vm.ownBlock = some k → vc.ownBlock ≠ some k
/-- The loop's rows: the first ones are copies. -/
structure CpL (W w : World) (r : Rol) (k : Nat) (raws : List CRaw) (vm vc : Value) : Prop where
  ms : w.ownsRow (W.heap.size + 1 + 1) 45 3 vm r.ms.length (cellsOf encM r.ms)
  cs : w.ownsRow (W.heap.size + 1 + 1) 53 3 vc r.cs.length (cellsOf encC raws)
  len : raws.length = r.cs.length
  low : ∀ (i : Nat) (h : i < raws.length) (h2 : i < r.cs.length), i < k → raws[i].name = r.cs[i].name ∧ raws[i].teacher = r.cs[i].teacher ∧ w.ownsRow (W.heap.size + 1 + 1) 9 1 raws[i].studs r.cs[i].studs.length (r.cs[i].studs.map Value.string) ∧ ∀ b, raws[i].studs.ownBlock = some b → vm.ownBlock ≠ some b ∧ vc.ownBlock ≠ some b
  dis : ∀ (i j : Nat) (h : i < raws.length) (h2 : j < raws.length), i < j → j < k → ∀ b, raws[i].studs.ownBlock = some b → raws[j].studs.ownBlock ≠ some b
  high : ∀ (i : Nat) (h : i < raws.length) (h2 : i < r.cs.length), k ≤ i → raws[i].name = r.cs[i].name ∧ raws[i].teacher = r.cs[i].teacher ∧ StrsAt (fun b => b < W.heap.size) w r.cs[i].studs raws[i].studs
  ne : ∀ k, vm.ownBlock = some k → vc.ownBlock ≠ some k
  bel : Below W.heap.size W w
  box : w.heap[W.heap.size]? = some (.cells #[vm, vc] 27 (0, 0))
  res : w.heap[W.heap.size + 1]? = some (.cells #[.slice none 0 0, .slice none 0 0] 27 (0, 0))
theorem CpL.under {W w w' : World} {r : Rol} {k : Nat} {raws : List CRaw} {vm vc : Value} (h : CpL W w r k raws vm vc) (b : Below w.heap.size w w') : CpL W w' r k raws vm vc :=
  ⟨own_keep h.ms fun q hq => b.block q (Gn.own_lt h.ms q hq), own_keep h.cs fun q hq => b.block q (Gn.own_lt h.cs q hq), h.len, fun i h1 h2 h3 => ⟨(h.low i h1 h2 h3).1, (h.low i h1 h2 h3).2.1, own_keep (h.low i h1 h2 h3).2.2.1 fun q hq => b.block q (Gn.own_lt (h.low i h1 h2 h3).2.2.1 q hq), (h.low i h1 h2 h3).2.2.2⟩, h.dis, fun i h1 h2 h3 => ⟨(h.high i h1 h2 h3).1, (h.high i h1 h2 h3).2.1, (h.high i h1 h2 h3).2.2.under b⟩, h.ne, h.bel.trans (b.mono h.bel.size), (b.block _ (Gn.heap_lt h.box)).trans h.box, (b.block _ (Gn.heap_lt h.res)).trans h.res⟩
/-- One class more is copied into its place. -/
theorem CpL.next {W w : World} {r : Rol} {k g cap : Nat} {raws : List CRaw} {vm : Value} (h : CpL W w r k raws vm (.slice (some ⟨g, 0, none⟩) r.cs.length cap)) (hk : k < r.cs.length) (v : Value) (hv : w.ownsRow (W.heap.size + 1 + 1) 9 1 v r.cs[k].studs.length (r.cs[k].studs.map Value.string) ∧ ∀ b, v.ownBlock = some b → vm.ownBlock ≠ some b ∧ b ≠ g ∧ ∀ (i : Nat) (h : i < raws.length), i < k → raws[i].studs.ownBlock ≠ some b) :
    CpL W (((w.setCell ⟨g, k * 3, none⟩ (.string r.cs[k].name)).setCell ⟨g, k * 3 + 1, none⟩ (.string r.cs[k].teacher)).setCell ⟨g, k * 3 + 2, none⟩ v) r (k + 1) (raws.set k ⟨r.cs[k].name, r.cs[k].teacher, v⟩) vm (.slice (some ⟨g, 0, none⟩) r.cs.length cap) := by
  have hgl : W.heap.size + 1 + 1 ≤ g := Gn.own_block h.cs g rfl
  have hkeep : ∀ b, g ≠ b → (((w.setCell ⟨g, k * 3, none⟩ (.string r.cs[k].name)).setCell ⟨g, k * 3 + 1, none⟩ (.string r.cs[k].teacher)).setCell ⟨g, k * 3 + 2, none⟩ v).heap[b]? = w.heap[b]? := fun b hb => (Gn.set_keep _ _ _ hb).trans ((Gn.set_keep _ _ _ hb).trans (Gn.set_keep _ _ _ hb))
  have hsz : (((w.setCell ⟨g, k * 3, none⟩ (.string r.cs[k].name)).setCell ⟨g, k * 3 + 1, none⟩ (.string r.cs[k].teacher)).setCell ⟨g, k * 3 + 2, none⟩ v).heap.size = w.heap.size := by simp [World.setCell]
  refine ⟨own_keep h.ms fun q hq => hkeep q (fun e => h.ne q hq (by rw [e]; rfl)), own_set3 encC_len h.cs h.len hk _ rfl, by rw [List.length_set]; exact h.len, fun i h1 h2 h3 => ?_, fun i j h1 h2 h3 h4 b hb => ?_, fun i h1 h2 h3 => ?_, h.ne, ((h.bel.setCell (by show W.heap.size ≤ g; omega) _).setCell (by show W.heap.size ≤ g; omega) _).setCell (by show W.heap.size ≤ g; omega) _, (hkeep _ (by omega)).trans h.box, (hkeep _ (by omega)).trans h.res⟩
  · by_cases hik : i = k
    · subst hik
      rw [List.getElem_set_self]
      exact ⟨rfl, rfl, own_keep hv.1 fun q hq => hkeep q (fun e => (hv.2 q hq).2.1 e.symm), fun b hb => ⟨(hv.2 b hb).1, fun e => (hv.2 b hb).2.1 (by injection e with e; exact e.symm)⟩⟩
    · rw [List.getElem_set_ne (fun e => hik e.symm)]
      obtain ⟨e1, e2, e3⟩ := h.low i (by simpa using h1) h2 (by omega)
      exact ⟨e1, e2, own_keep e3.1 fun q hq => hkeep q (fun e => (e3.2 q hq).2 (by rw [← e]; rfl)), e3.2⟩
  · by_cases hjk : j = k
    · subst hjk
      rw [List.getElem_set_ne (by omega)] at hb
      rw [List.getElem_set_self]
      intro e
      exact (hv.2 b e).2.2 i (by simpa using h1) h3 hb
    · rw [List.getElem_set_ne (by omega)] at hb
      rw [List.getElem_set_ne (by omega)]
      exact h.dis i j (by simpa using h1) (by simpa using h2) h3 (by omega) b hb
  · rw [List.getElem_set_ne (fun e => by omega)]
    obtain ⟨e1, e2, e3⟩ := h.high i (by simpa using h1) h2 (by omega)
    exact ⟨e1, e2, e3.keep (by rw [hsz]; exact Nat.le_refl _) fun q hq _ => ⟨hq, fun j => Gn.cell_same (hkeep q (by omega)) j⟩⟩
theorem CpL.next2 {W w : World} {r : Rol} {k g m cap : Nat} {raws : List CRaw} {vm : Value} {nm tc : ByteArray} (hm : m = r.cs.length) (h : CpL W w r k raws vm (.slice (some ⟨g, 0, none⟩) m cap)) (hk : k < r.cs.length) (hnm : nm = r.cs[k].name) (htc : tc = r.cs[k].teacher) (v : Value) (hv : w.ownsRow (W.heap.size + 1 + 1) 9 1 v r.cs[k].studs.length (r.cs[k].studs.map Value.string) ∧ ∀ b, v.ownBlock = some b → vm.ownBlock ≠ some b ∧ b ≠ g ∧ ∀ (i : Nat) (h : i < raws.length), i < k → raws[i].studs.ownBlock ≠ some b) :
    CpL W (((w.setCell ⟨g, k * 3, none⟩ (.string nm)).setCell ⟨g, k * 3 + 1, none⟩ (.string tc)).setCell ⟨g, k * 3 + 2, none⟩ v) r (k + 1) (raws.set k ⟨nm, tc, v⟩) vm (.slice (some ⟨g, 0, none⟩) m cap) := by
  subst hm
  subst hnm
  subst htc
  exact h.next hk v hv
theorem own_heap {w : World} {base g cap size : Nat} {e : TypeId} {n : Nat} {xs : List Value} (h : w.ownsRow base e size (.slice (some ⟨g, 0, none⟩) n cap) n xs) : ∃ cur, w.heap[g]? = some (.cells cur e (0, 0)) ∧ cur.size = cap * size := by
  rcases h.2 with ⟨h0, _⟩ | ⟨g', cap', cur, h0, h1, h2, h3, h4, h5, h6⟩
  · cases h0
  · injection h0 with h0 _ h0c
    injection h0 with h0
    injection h0 with h0
    subst h0
    subst h0c
    exact ⟨cur, h2, h5⟩
theorem own_cap {w : World} {base g cap size : Nat} {e : TypeId} {n : Nat} {xs : List Value} (h : w.ownsRow base e size (.slice (some ⟨g, 0, none⟩) n cap) n xs) : n ≤ cap := by
  rcases h.2 with ⟨h0, _⟩ | ⟨g', cap', cur, h0, h1, h2, h3, h4, h5, h6⟩
  · cases h0
  · injection h0 with h0 _ h0c
    subst h0c
    exact h3
def CopOut (W : World) (r : Rol) (e : Ending) (w : World) : Prop := ∃ (raws : List CRaw) (vm vc : Value), e = .returned (.agg #[vm, vc]) ∧ Cop W w r raws vm vc ∧ Below W.heap.size W w
set_option maxHeartbeats 8000000 in
theorem copied_any (r : Rol) (P : Nat → Prop) (W : World) (v : Value) (h : RlAt P W r v) (hm : r.ms.length ≤ 4096) (hc : r.cs.length ≤ 4096) (hs : ∀ c ∈ r.cs, c.studs.length ≤ 4096) :
    Calls Tryz.prog 55 #[v] W (CopOut W r) := by
  have h9 : RlAt (fun b => b < W.heap.size) W r v := h.keep (Nat.le_refl _) fun q _ hq => ⟨hq, fun _ => rfl⟩
  obtain ⟨Am, cm, Ac, cc, rfl, hms, hcs⟩ := h9.form
  obtain ⟨raws, hrow, hall⟩ := hcs
  obtain ⟨n, hnn⟩ : ∃ n, n = r.ms.length := ⟨_, rfl⟩
  obtain ⟨m, hmm⟩ : ∃ m, m = r.cs.length := ⟨_, rfl⟩
  have hrl : raws.length = m := hall.1.trans hmm.symm
  rw [← hnn] at hms hm ⊢
  rw [← hmm] at hrow hc ⊢
  obtain ⟨V, hV⟩ : ∃ V, V = (W.alloc (.cells #[.slice Am n cm, .slice Ac m cc] 27)).alloc (.cells #[.slice none 0 0, .slice none 0 0] 27) := ⟨_, rfl⟩
  have hb : Below W.heap.size W V := by rw [hV]; exact ((Below.refl _ W).alloc (Nat.le_refl _) _).alloc (by simp) _
  have hz : V.heap.size = W.heap.size + 1 + 1 := by rw [hV]; simp
  have hx0 : V.heap[W.heap.size]? = some (.cells #[.slice Am n cm, .slice Ac m cc] 27 (0, 0)) := by rw [hV]; exact (heap_alloc_old _ _ (by simp)).trans (heap_alloc_new W _)
  have hx1 : V.heap[W.heap.size + 1]? = some (.cells #[.slice none 0 0, .slice none 0 0] 27 (0, 0)) := by
    rw [hV]; have := heap_alloc_new (W.alloc (.cells #[.slice Am n cm, .slice Ac m cc] 27)) (.cells #[.slice none 0 0, .slice none 0 0] 27); simpa using this
  have HM := Lib.hid (clone_M r.ms _ V (.slice Am n cm) (RowAt.under hms hb) (by rw [← hnn]; exact hm) (cell_one encM_one r.ms))
  have hone : ∀ u ∈ cellsOf encC raws, u.oneCell' = true := by
    intro u hu
    obtain ⟨l, hl, hul⟩ := List.mem_flatten.1 hu
    obtain ⟨c, hcm, rfl⟩ := List.mem_map.1 hl
    obtain ⟨i, hi, rfl⟩ := List.getElem_of_mem hcm
    obtain ⟨A3, c3, h3⟩ := (hall.2 i hi (by rw [← hmm, ← hrl]; exact hi)).2.2.form
    simp only [encC, List.mem_cons, List.not_mem_nil, or_false] at hul
    rcases hul with rfl | rfl | rfl
    · rfl
    · rfl
    · rw [h3]; rfl
  have HC := Lib.hid (fun (w : World) (b : Below W.heap.size W w) => clone_C raws _ w (.slice Ac m cc) (RowAt.under hrow b) (by rw [hrl]; exact hc) hone)
  have HALL := Lib.hid hall
  have HNN := Lib.hid hnn
  have HMM := Lib.hid hmm
  have HRL := Lib.hid hrl
  have HV := Lib.hid hV
  have HB := Lib.hid hb
  have HX0 := Lib.hid hx0
  have HX1 := Lib.hid hx1
  have HZ := Lib.hid hz
  have HS := Lib.hid hs
  have x0 := cell_of_row _ _ 0 _ _ (0, 0) hx0
  clear hV hb hx0 hx1 hz h h9 hms hrow hall hnn hmm hrl hs hone
  go_enter Tryz.func55, Tryz.ntmps55
  go_upto_region 1 with fail
  rw [← HV.out]
  go_wp2_with fail
  refine HM.out.mono ?_
  rintro e w2 ⟨v2, rfl, ho2, hb2⟩
  rw [← HNN.out] at ho2
  obtain ⟨A2, c2, rfl⟩ := Gn.slice_of ho2
  have hy0 := (hb2.block _ (Gn.heap_lt HX0.out)).trans HX0.out
  have hy1 := (hb2.block _ (Gn.heap_lt HX1.out)).trans HX1.out
  have f0 := Gn.frozen_row hy0 0
  have y0 := cell_of_row _ _ 0 _ _ (0, 0) hy0
  have HO2 := Lib.hid ho2
  have HB2 := Lib.hid (HB.out.trans (hb2.mono HB.out.size))
  have HY0 := Lib.hid hy0
  have HY1 := Lib.hid hy1
  have HS2 := Lib.hid hb2.size
  clear ho2 hb2 hy0 hy1 x0
  go_upto_region 2 with fail
  clear f0 y0
  obtain ⟨W3, hW3⟩ : ∃ W3, W3 = w2.setCell ⟨W.heap.size, 0, none⟩ (.slice A2 n c2) := ⟨_, rfl⟩
  rw [← hW3]
  have hz0 : W3.heap[W.heap.size]? = some (.cells #[.slice A2 n c2, .slice Ac m cc] 27 (0, 0)) := by rw [hW3]; exact Gn.heap_set HY0.out 0 _
  have hz1 : W3.heap[W.heap.size + 1]? = some (.cells #[.slice none 0 0, .slice none 0 0] 27 (0, 0)) := by rw [hW3, Gn.set_keep _ _ _ (by omega)]; exact HY1.out
  have hb3 : Below W.heap.size W W3 := by rw [hW3]; exact HB2.out.setCell (Nat.le_refl _) _
  have ho3 : W3.ownsRow V.heap.size 45 3 (.slice A2 n c2) n (cellsOf encM r.ms) := by rw [hW3]; exact ownsRow_setCell_below HO2.out (by show W.heap.size < _; have := HZ.out; omega) _
  have hs3 : V.heap.size ≤ W3.heap.size := by rw [hW3]; simpa [World.setCell] using HS2.out
  have HZ0 := Lib.hid hz0
  have HZ1 := Lib.hid hz1
  have HB3 := Lib.hid hb3
  have HO3 := Lib.hid ho3
  have HS3 := Lib.hid hs3
  have z1 := cell_of_row _ _ 1 _ _ (0, 0) hz0
  clear hz0 hz1 hb3 ho3 hs3 hW3
  go_wp2_with fail
  refine (HC.out W3 HB3.out).mono ?_
  rintro e w4 ⟨v4, rfl, ho4, hb4⟩
  rw [HRL.out] at ho4
  obtain ⟨A4, c4, rfl⟩ := Gn.slice_of ho4
  have hq0 := (hb4.block _ (Gn.heap_lt HZ0.out)).trans HZ0.out
  have hq1 := (hb4.block _ (Gn.heap_lt HZ1.out)).trans HZ1.out
  have f1 := Gn.frozen_row hq0 1
  have q1 := cell_of_row _ _ 1 _ _ (0, 0) hq0
  have HQ0 := Lib.hid hq0
  have HQ1 := Lib.hid hq1
  have HO4 := Lib.hid ho4
  have HB4 := Lib.hid (HB3.out.trans (hb4.mono HB3.out.size))
  have HB34 := Lib.hid hb4
  clear hq0 hq1 ho4 hb4 z1
  go_upto_region 3 with fail
  clear f1 q1
  obtain ⟨W5, hW5⟩ : ∃ W5, W5 = w4.setCell ⟨W.heap.size, 1, none⟩ (.slice A4 m c4) := ⟨_, rfl⟩
  rw [← hW5]
  have hk5 : ∀ b, W.heap.size ≠ b → W5.heap[b]? = w4.heap[b]? := fun b hb => by rw [hW5]; exact Gn.set_keep _ _ _ hb
  have hs5 : W5.heap.size = w4.heap.size := by rw [hW5]; simp [World.setCell]
  have hcp : CpL W W5 r 0 raws (.slice A2 n c2) (.slice A4 m c4) := by
    have hz := HZ.out
    have h4 := HB34.out.size
    have h3 := HS3.out
    refine ⟨?_, ?_, HRL.out.trans HMM.out, fun i _ _ h => absurd h (Nat.not_lt_zero _), fun i j _ _ _ h => absurd h (Nat.not_lt_zero _), fun i h1 h2 _ => ?_, fun k hk e => ?_, by rw [hW5]; exact HB4.out.setCell (Nat.le_refl _) _, by rw [hW5]; exact Gn.heap_set HQ0.out 1 _, (hk5 _ (by omega)).trans HQ1.out⟩
    · rw [← HNN.out, ← hz]
      exact own_keep HO3.out fun k hk => by
        have h1 := Gn.own_block HO3.out k hk
        rw [hk5 k (by omega)]
        exact HB34.out.block k (Gn.own_lt HO3.out k hk)
    · rw [← HMM.out]
      exact own_low (own_keep HO4.out fun k hk => hk5 k (by have := Gn.own_block HO4.out k hk; omega)) (by omega)
    · obtain ⟨e1, e2, e3⟩ := HALL.out.2 i h1 h2
      exact ⟨e1, e2, e3.keep (by rw [hs5]; exact HB4.out.size) fun q hq _ => ⟨hq, fun j => Gn.cell_same ((hk5 q (by omega)).trans (HB4.out.block q hq)) j⟩⟩
    · have h1 := Gn.own_lt HO3.out k hk
      have h2 := Gn.own_block HO4.out k e
      omega
  have HCP := Lib.hid hcp
  have p1 := cell_of_row _ _ 1 _ _ (0, 0) hcp.box
  clear hcp hk5 hs5 hW5
  go_wp2_with fail
  go_loopw [16] (fun x wr => ∃ (k : Nat) (rs : List CRaw), k ≤ m ∧ x = .int .i64 k ∧ CpL W wr r k rs (.slice A2 n c2) (.slice A4 m c4)) (fun x _ => m - (intOf x).toNat)
  case atStart => exact ⟨0, raws, Nat.zero_le _, rfl, HCP.out⟩
  case round =>
    obtain ⟨k, rs, hkm, rfl, hcl⟩ := hrel
    have HCL := Lib.hid hcl
    clear hcl
    by_cases hlt : k < m
    · have hlt2 : (k : Int) < (m : Int) := by omega
      have hkc : k < r.cs.length := by rw [← HMM.out]; exact hlt
      have hkr : k < rs.length := by rw [HCL.out.len]; exact hkc
      obtain ⟨e1, e2, e3⟩ := HCL.out.high k hkr hkc (Nat.le_refl _)
      have hrw := RowAt.of_own encC_len (l := rs) (by rw [HCL.out.len]; exact HCL.out.cs)
      obtain ⟨A5, c5, b5, h5, _, h5b, h5c, h5d⟩ := hrw
      rw [HCL.out.len, ← HMM.out] at h5
      injection h5 with h5 _ h5k
      subst h5
      subst h5k
      obtain ⟨rfl, hb5, _⟩ := h5c (by omega)
      obtain ⟨nm, hnm⟩ : ∃ nm, nm = r.cs[k].name := ⟨_, rfl⟩
      obtain ⟨tc, htc⟩ : ∃ tc, tc = r.cs[k].teacher := ⟨_, rfl⟩
      obtain ⟨sv, hsv⟩ : ∃ sv, sv = rs[k].studs := ⟨_, rfl⟩
      have k0 := h5d k hkr 0 (.string rs[k].name) rfl
      have k1 := h5d k hkr 1 (.string rs[k].teacher) rfl
      have k2 := h5d k hkr 2 rs[k].studs rfl
      rw [e1, ← hnm, Nat.add_zero] at k0
      rw [e2, ← htc] at k1
      rw [← hsv] at k2 e3
      obtain ⟨A6, c6, hsf⟩ := e3.form
      obtain ⟨sl, hsl⟩ : ∃ sl, sl = r.cs[k].studs.length := ⟨_, rfl⟩
      rw [← hsl] at hsf
      rw [hsf] at k2 e3
      have hsl4 : r.cs[k].studs.length ≤ 4096 := HS.out _ (List.getElem_mem hkc)
      obtain ⟨V7, hV7⟩ : ∃ V7, V7 = wr.alloc (.cells #[.string nm, .string tc, .slice A6 sl c6] 53) := ⟨_, rfl⟩
      have hb7 : Below wr.heap.size wr V7 := by rw [hV7]; exact (Below.refl _ _).alloc (Nat.le_refl _) _
      have hx7 : V7.heap[wr.heap.size]? = some (.cells #[.string nm, .string tc, .slice A6 sl c6] 53 (0, 0)) := by rw [hV7]; exact heap_alloc_new _ _
      have hcl7 := HCL.out.under hb7
      have HX7 := Lib.hid hx7
      have HCL7 := Lib.hid hcl7
      have HV7 := Lib.hid hV7
      have HWZ := Lib.hid (show W.heap.size + 1 < wr.heap.size from Gn.heap_lt HCL.out.res)
      have hgw : wr.heap.size ≠ b5 := by omega
      have HGB := Lib.hid (Gn.own_block HCL.out.cs b5 rfl)
      have HCC := Lib.hid (fun (w : World) (b : Below V7.heap.size V7 w) => ccopy_any nm tc r.cs[k].studs _ w (.slice A6 sl c6) ((e3.under hb7).under b) hsl4)
      have HMK := Lib.hid (fun (w' : World) (b : Below V7.heap.size V7 w') => show (fun w' : World => w'.cell? ⟨W.heap.size, 1, none⟩ = some (.slice (some ⟨b5, 0, none⟩) m c4) ∧ w'.cell? ⟨wr.heap.size, 0, none⟩ = some (.string nm) ∧ w'.cell? ⟨wr.heap.size, 1, none⟩ = some (.string tc) ∧ w'.cell? ⟨wr.heap.size, 2, none⟩ = some (.slice A6 sl c6)) w' from ⟨cell_of_row _ _ 1 _ _ (0, 0) ((b.block _ (Gn.heap_lt HCL7.out.box)).trans HCL7.out.box), cell_of_row _ _ 0 _ _ (0, 0) ((b.block _ (Gn.heap_lt HX7.out)).trans HX7.out), cell_of_row _ _ 1 _ _ (0, 0) ((b.block _ (Gn.heap_lt HX7.out)).trans HX7.out), cell_of_row _ _ 2 _ _ (0, 0) ((b.block _ (Gn.heap_lt HX7.out)).trans HX7.out)⟩)
      have HNM := Lib.hid hnm
      have HTC := Lib.hid htc
      have HKR := Lib.hid hkr
      have HKC := Lib.hid hkc
      clear hb7 hx7 hcl7 hV7 e3 hsl4 hsl hsf hsv e1 e2 h5d h5c h5b hnm htc hb5
      go_upto_region 6 with fail
      rw [← HV7.out]
      clear k0 k1 k2
      refine wp_region_noPanic ?_
      refine wp_region_held_drew (S := (fun w' : World => w'.cell? ⟨W.heap.size, 1, none⟩ = some (.slice (some ⟨b5, 0, none⟩) m c4) ∧ w'.cell? ⟨wr.heap.size, 0, none⟩ = some (.string nm) ∧ w'.cell? ⟨wr.heap.size, 1, none⟩ = some (.string tc) ∧ w'.cell? ⟨wr.heap.size, 2, none⟩ = some (.slice A6 sl c6))) (by kernel_rfl) ?_ (fun hHeld => ?_)
      · exact HMK.out _ (Gn.below_drew (Below.refl V7.heap.size V7))
      refine wpAnyH_take (i := 0) (v := ?_) rfl (by kernel_rfl) (by kernel_rfl) (by kernel_rfl) (fun _ _ _ h => h) (Or.inl ⟨by rfl, ?_⟩) (by assumption) ?_
      rotate_left
      · intro w hSw
        try dsimp only at hSw
        go_simp
        try with_reducible rfl
      try simp only [Act.put, List.setIfInBounds_toArray, List.set_cons_zero, List.set_cons_succ]
      refine wpAnyH_take (i := 1) (v := ?_) rfl (by kernel_rfl) (by kernel_rfl) (by kernel_rfl) (fun _ _ _ h => h) (Or.inl ⟨by rfl, ?_⟩) (by assumption) ?_
      rotate_left
      · intro w hSw
        try dsimp only at hSw
        go_simp
        try with_reducible rfl
      try simp only [Act.put, List.setIfInBounds_toArray, List.set_cons_zero, List.set_cons_succ]
      refine wpAnyH_take (i := 2) (v := ?_) rfl (by kernel_rfl) (by kernel_rfl) (by kernel_rfl) (fun _ _ _ h => h) (Or.inl ⟨by rfl, ?_⟩) (by assumption) ?_
      rotate_left
      · intro w hSw
        try dsimp only at hSw
        go_simp
        try with_reducible rfl
      try simp only [Act.put, List.setIfInBounds_toArray, List.set_cons_zero, List.set_cons_succ]
      refine wpAnyH_take (i := 3) (v := ?_) rfl (by kernel_rfl) (by kernel_rfl) (by kernel_rfl) (fun _ _ _ h => h) (Or.inl ⟨by rfl, ?_⟩) (by assumption) ?_
      rotate_left
      · intro w hSw
        try dsimp only at hSw
        go_simp
        try with_reducible rfl
      try simp only [Act.put, List.setIfInBounds_toArray, List.set_cons_zero, List.set_cons_succ]
      refine wpAnyH_ready (rs := [4]) (by kernel_rfl) (by simp) ?_
      refine AllReadyH.cons rfl (fun K hK => ?_) AllReadyH.nil
      go_simp
      go_at_call 49
      refine (HCC.out _ (Gn.below_drew (Below.refl V7.heap.size V7))).mono ?_
      rintro e w8 ⟨v8, rfl, hs8, hb8⟩
      have hb8 : Below V7.heap.size V7 w8 := ⟨hb8.os, hb8.tape, hb8.output, hb8.size, hb8.block⟩
      have hcl8 := HCL7.out.under hb8
      have hlt8 : ∀ b, v8.ownBlock = some b → V7.heap.size ≤ b := fun b e9 => Gn.own_block hs8 b e9
      have hv8 : w8.ownsRow (W.heap.size + 1 + 1) 9 1 v8 r.cs[k].studs.length (r.cs[k].studs.map Value.string) ∧ ∀ b, v8.ownBlock = some b → (Value.slice A2 n c2).ownBlock ≠ some b ∧ b ≠ b5 ∧ ∀ (i : Nat) (h : i < rs.length), i < k → rs[i].studs.ownBlock ≠ some b := ⟨own_low hs8 (by have h5 := HWZ.out; have h6 := Gn.heap_lt HX7.out; show W.heap.size + 1 + 1 ≤ V7.heap.size; omega), fun b e9 => ⟨fun e8 => by have h7 := Gn.own_lt HCL7.out.ms b e8; have := hlt8 b e9; omega, fun e8 => by have h3 := Gn.own_lt HCL7.out.cs b5 rfl; have := hlt8 b e9; omega, fun i hi hik e8 => by have h7 := Gn.own_lt (HCL7.out.low i hi (by rw [← HCL7.out.len]; exact hi) hik).2.2.1 b e8; have := hlt8 b e9; omega⟩⟩
      have hnx := hcl8.next2 HMM.out HKC.out HNM.out HTC.out v8 hv8
      have HNX := Lib.hid hnx
      have HB8 := Lib.hid hb8
      have hc8 : w8.ownsRow (W.heap.size + 1 + 1) 53 3 (.slice (some ⟨b5, 0, none⟩) m c4) m (cellsOf encC rs) := by have := hcl8.cs; rwa [← HMM.out] at this
      obtain ⟨cur8, hcur8, hcs8⟩ := own_heap hc8
      have hm8 := own_cap hc8
      clear hc8
      obtain ⟨z0, d0⟩ : ∃ z, w8.cell? ⟨b5, k * 3, none⟩ = some z := ⟨_, (cell_of_row _ _ (k * 3) _ _ (0, 0) hcur8).trans (Array.getElem?_eq_getElem (by omega))⟩
      obtain ⟨z1, d1⟩ : ∃ z, w8.cell? ⟨b5, k * 3 + 1, none⟩ = some z := ⟨_, (cell_of_row _ _ (k * 3 + 1) _ _ (0, 0) hcur8).trans (Array.getElem?_eq_getElem (by omega))⟩
      obtain ⟨z2, d2⟩ : ∃ z, w8.cell? ⟨b5, k * 3 + 2, none⟩ = some z := ⟨_, (cell_of_row _ _ (k * 3 + 2) _ _ (0, 0) hcur8).trans (Array.getElem?_eq_getElem (by omega))⟩
      have df := Gn.frozen_row hcur8
      have df0 := df (k * 3)
      have df1 := df (k * 3 + 1)
      have df2 := df (k * 3 + 2)
      have HK8 := Lib.hid (fun (a b c : Value) (q : Nat) (hq : b5 ≠ q) => show (((w8.setCell ⟨b5, k * 3, none⟩ a).setCell ⟨b5, k * 3 + 1, none⟩ b).setCell ⟨b5, k * 3 + 2, none⟩ c).heap[q]? = w8.heap[q]? from (Gn.set_keep _ _ _ hq).trans ((Gn.set_keep _ _ _ hq).trans (Gn.set_keep _ _ _ hq)))
      clear hcur8 hcs8 hm8 df
      obtain ⟨A8, c8, rfl⟩ := Gn.slice_of hs8
      clear hs8 hb8 hcl8 hv8 hnx hlt8
      refine hK.out _ _ (HMK.out _ HB8.out) (fun hHeld => ?_)
      clear hK K
      try simp only [Act.put, List.setIfInBounds_toArray, List.set_cons_zero, List.set_cons_succ]
      refine wpAnyH_take (i := 5) (v := ?_) rfl (by kernel_rfl) (by kernel_rfl) (by kernel_rfl) (fun _ _ _ h => h) (Or.inl ⟨by rfl, ?_⟩) (by assumption) ?_
      rotate_left
      · intro w hSw
        try dsimp only at hSw
        go_simp
        try with_reducible rfl
      try simp only [Act.put, List.setIfInBounds_toArray, List.set_cons_zero, List.set_cons_succ]
      refine wpAnyH_ready (rs := [6]) (by kernel_rfl) (by simp) ?_
      refine AllReadyH.cons rfl (fun K hK => ?_) AllReadyH.nil
      go_simp
      refine hK.out _ _ (⟨(Gn.cell_same (HK8.out _ _ _ _ (by have := HGB.out; omega)) _).trans hHeld.1, (Gn.cell_same (HK8.out _ _ _ _ (Ne.symm hgw)) _).trans hHeld.2.1, (Gn.cell_same (HK8.out _ _ _ _ (Ne.symm hgw)) _).trans hHeld.2.2.1, (Gn.cell_same (HK8.out _ _ _ _ (Ne.symm hgw)) _).trans hHeld.2.2.2⟩) (fun hHeld => ?_)
      clear hK K
      try simp only [Act.put, List.setIfInBounds_toArray, List.set_cons_zero, List.set_cons_succ]
      refine wpAnyH_done (by kernel_rfl) ?_ _
      refine NoPanic.normal ?_
      go_wp2_with fail
      go_roundw
      case rel => exact ⟨k + 1, _, by omega, by go_num, HNX.out⟩
      case measure => simp [intOf]; omega
    · have hlt2 : ¬ (k : Int) < (m : Int) := by omega
      have hke : k = m := by omega
      subst hke
      have hbx := HCL.out.box
      have hrs := HCL.out.res
      have b0 := cell_of_row _ _ 0 _ _ (0, 0) hbx
      have b1 := cell_of_row _ _ 1 _ _ (0, 0) hbx
      have r0 := cell_of_row _ _ 0 _ _ (0, 0) hrs
      have r1 := cell_of_row _ _ 1 _ _ (0, 0) hrs
      have g0 := Gn.frozen_row hrs 0
      have g1 := Gn.frozen_row hrs 1
      have HRS := Lib.hid (Gn.heap_set (Gn.heap_set hrs 0 (.slice A2 n c2)) 1 (.slice A4 k c4))
      have hkk : ∀ b, W.heap.size + 1 ≠ b → ((wr.setCell ⟨W.heap.size + 1, 0, none⟩ (.slice A2 n c2)).setCell ⟨W.heap.size + 1, 1, none⟩ (.slice A4 k c4)).heap[b]? = wr.heap[b]? := fun b hb => (Gn.set_keep _ _ _ hb).trans (Gn.set_keep _ _ _ hb)
      have hsz : ((wr.setCell ⟨W.heap.size + 1, 0, none⟩ (.slice A2 n c2)).setCell ⟨W.heap.size + 1, 1, none⟩ (.slice A4 k c4)).heap.size = wr.heap.size := by simp [World.setCell]
      have HFI := Lib.hid (show CopOut W r (.returned (.agg #[.slice A2 n c2, .slice A4 k c4])) ((wr.setCell ⟨W.heap.size + 1, 0, none⟩ (.slice A2 n c2)).setCell ⟨W.heap.size + 1, 1, none⟩ (.slice A4 k c4)) from ⟨rs, _, _, rfl, ⟨own_low (own_keep HCL.out.ms fun q hq => hkk q (by have := Gn.own_block HCL.out.ms q hq; omega)) (by omega), own_low (own_keep HCL.out.cs fun q hq => hkk q (by have := Gn.own_block HCL.out.cs q hq; omega)) (by omega), ⟨HCL.out.len, fun i h1 h2 => by
        obtain ⟨e1, e2, e3, e4⟩ := HCL.out.low i h1 h2 (by rw [HMM.out]; exact h2)
        exact ⟨e1, e2, (strs_owned e3).keep (by rw [hsz]; exact Nat.le_refl _) fun q hq _ => ⟨⟨by omega, e4 q hq.2⟩, fun j => Gn.cell_same (hkk q (by omega)) j⟩⟩⟩, fun i h1 h2 => by
        obtain ⟨e1, e2, e3, e4⟩ := HCL.out.low i h1 h2 (by rw [HMM.out]; exact h2)
        exact ⟨own_low (own_keep e3 fun q hq => hkk q (by have := Gn.own_block e3 q hq; omega)) (by omega), e4⟩, fun i j h1 h2 h3 => HCL.out.dis i j h1 h2 h3 (by rw [HMM.out, ← HCL.out.len]; exact h2), HCL.out.ne⟩, (HCL.out.bel.setCell (by simp) _).setCell (by simp) _⟩)
      clear hkk hsz hbx hrs
      go_wp2_with fail
      exact bodyPost_ret (results_cell_row rfl _ _ (W.heap.size + 1) 27 _ (0, 0) _ rfl HRS.out Tryz.underlying27 rfl rfl) rfl HFI.out
end Go.Proofs.YtnmhgjoofgmcgaaGreat.Rl
