/-
  Layer 14: two trees that are told into two boxes, in whatever order.
  Layer 14: how an argument that is a row of made nodes reads.
-/
import Derived.Test.YtdknlifpoihnmaaTrTo
import Derived.Test.YtdknlifpoihnmaaTrBlt
import Derived.Test.YtdknlifpoihnmaaTrRead

namespace Go.Proofs.Ytdknlifpoihnmaa.Tr
open Go.RowKit
set_option maxRecDepth 100000
set_option linter.unusedSimpArgs false
set_option linter.unusedVariables false
/-- A tree's value: its number and the slice of its kids. -/
structure TV where
  n : Int
  A : Option Addr
  m : Nat
  c : Nat
def TV.cells (v : TV) : Array Value := #[.int .i64 v.n, .slice v.A v.m v.c]
def OffP (p1 p2 : Option Nat) (r : Nat) : Prop := (∀ p, p1 = some p → r ≠ p) ∧ (∀ p, p2 = some p → r ≠ p)
def TrO (B : Nat) (w : World) (t : Tr) (o : Option TV) (p1 p2 : Option Nat) : Prop := ∀ v, o = some v → TrAt (fun r => B ≤ r ∧ OffP p1 p2 r) w t (.int .i64 v.n) (.slice v.A v.m v.c)
def BxO (T : TypeId) (B : Nat) (w : World) (p : Option Nat) : Prop := ∀ q, p = some q → B ≤ q ∧ w.heap[q]? = some (.cells #[.int .i64 0, .slice none 0 0] T (0, 0))
structure Two (T : TypeId) (V w : World) (t u : Tr) (o1 o2 : Option TV) (p1 p2 : Option Nat) : Prop where
  bel : Below V.heap.size V w
  tr1 : TrO V.heap.size w t o1 p1 p2
  tr2 : TrO V.heap.size w u o2 p1 p2
  bx1 : BxO T V.heap.size w p1
  bx2 : BxO T V.heap.size w p2
  ne : ∀ q r, p1 = some q → p2 = some r → q ≠ r
theorem Two.start (T : TypeId) (V w : World) (t u : Tr) (h : Below V.heap.size V w) : Two T V w t u none none none none :=
  ⟨h, fun _ h => (by cases h), fun _ h => (by cases h), fun _ h => (by cases h), fun _ h => (by cases h), fun _ _ h => (by cases h)⟩
theorem TrO.under {B : Nat} {w w' : World} {t : Tr} {o : Option TV} {p1 p2 : Option Nat} (h : TrO B w t o p1 p2) (b : Below w.heap.size w w') : TrO B w' t o p1 p2 := fun v hv =>
  (h v hv).keep b.size fun r hr hz => ⟨hr, fun j => b.cell (p := ⟨r, j, none⟩) hz⟩
theorem BxO.under {T : TypeId} {B : Nat} {w w' : World} {p : Option Nat} (h : BxO T B w p) (b : Below w.heap.size w w') : BxO T B w' p := fun q hq =>
  ⟨(h q hq).1, (b.block _ (Gn.heap_lt (h q hq).2)).trans (h q hq).2⟩
theorem off_new {T : TypeId} {B : Nat} {w : World} {p1 p2 : Option Nat} (h1 : BxO T B w p1) (h2 : BxO T B w p2) {r : Nat} (hr : w.heap.size ≤ r) : OffP p1 p2 r :=
  ⟨fun p hp e => by have := Gn.heap_lt (h1 p hp).2; omega, fun p hp e => by have := Gn.heap_lt (h2 p hp).2; omega⟩
theorem Two.told1 {T : TypeId} {V w w' : World} {t u : Tr} {o1 o2 : Option TV} {p1 p2 : Option Nat} (h : Two T V w t u o1 o2 p1 p2) (n : Int) (A : Option Addr) (m c : Nat) (ht : TrAt (fun r => w.heap.size ≤ r) w' t (.int .i64 n) (.slice A m c)) (b : Below w.heap.size w w') : Two T V w' t u (some ⟨n, A, m, c⟩) o2 p1 p2 :=
  ⟨h.bel.trans (b.mono h.bel.size), fun v hv => by
    injection hv with hv
    subst hv
    exact ht.keep (Nat.le_refl _) fun r hr _ => ⟨⟨Nat.le_trans h.bel.size hr, off_new h.bx1 h.bx2 hr⟩, fun _ => rfl⟩, h.tr2.under b, h.bx1.under b, h.bx2.under b, h.ne⟩
theorem Two.told2 {T : TypeId} {V w w' : World} {t u : Tr} {o1 o2 : Option TV} {p1 p2 : Option Nat} (h : Two T V w t u o1 o2 p1 p2) (n : Int) (A : Option Addr) (m c : Nat) (ht : TrAt (fun r => w.heap.size ≤ r) w' u (.int .i64 n) (.slice A m c)) (b : Below w.heap.size w w') : Two T V w' t u o1 (some ⟨n, A, m, c⟩) p1 p2 :=
  ⟨h.bel.trans (b.mono h.bel.size), h.tr1.under b, fun v hv => by
    injection hv with hv
    subst hv
    exact ht.keep (Nat.le_refl _) fun r hr _ => ⟨⟨Nat.le_trans h.bel.size hr, off_new h.bx1 h.bx2 hr⟩, fun _ => rfl⟩, h.bx1.under b, h.bx2.under b, h.ne⟩
theorem Two.al1 {T : TypeId} {V w : World} {t u : Tr} {o1 o2 : Option TV} {p2 : Option Nat} (h : Two T V w t u o1 o2 none p2) : Two T V (w.alloc (.cells #[.int .i64 0, .slice none 0 0] T)) t u o1 o2 (some w.heap.size) p2 := by
  have b : Below w.heap.size w (w.alloc (.cells #[.int .i64 0, .slice none 0 0] T)) := (Below.refl _ w).alloc (Nat.le_refl _) _
  have key : ∀ {t : Tr} {o : Option TV}, TrO V.heap.size w t o none p2 → TrO V.heap.size (w.alloc (.cells #[.int .i64 0, .slice none 0 0] T)) t o (some w.heap.size) p2 := fun h v hv =>
    (h v hv).keep b.size fun r hr hz => ⟨⟨hr.1, fun p hp e => by injection hp with hp; omega, hr.2.2⟩, fun j => b.cell (p := ⟨r, j, none⟩) hz⟩
  refine ⟨h.bel.trans (b.mono h.bel.size), key h.tr1, key h.tr2, fun q hq => ?_, h.bx2.under b, fun q r hq hr e => ?_⟩
  · injection hq with hq
    subst hq
    exact ⟨h.bel.size, heap_alloc_new w _⟩
  · injection hq with hq
    have := Gn.heap_lt (h.bx2 r hr).2
    omega
theorem Two.al2 {T : TypeId} {V w : World} {t u : Tr} {o1 o2 : Option TV} {p1 : Option Nat} (h : Two T V w t u o1 o2 p1 none) : Two T V (w.alloc (.cells #[.int .i64 0, .slice none 0 0] T)) t u o1 o2 p1 (some w.heap.size) := by
  have b : Below w.heap.size w (w.alloc (.cells #[.int .i64 0, .slice none 0 0] T)) := (Below.refl _ w).alloc (Nat.le_refl _) _
  have key : ∀ {t : Tr} {o : Option TV}, TrO V.heap.size w t o p1 none → TrO V.heap.size (w.alloc (.cells #[.int .i64 0, .slice none 0 0] T)) t o p1 (some w.heap.size) := fun h v hv =>
    (h v hv).keep b.size fun r hr hz => ⟨⟨hr.1, hr.2.1, fun p hp e => by injection hp with hp; omega⟩, fun j => b.cell (p := ⟨r, j, none⟩) hz⟩
  refine ⟨h.bel.trans (b.mono h.bel.size), key h.tr1, key h.tr2, h.bx1.under b, fun q hq => ?_, fun q r hq hr e => ?_⟩
  · injection hq with hq
    subst hq
    exact ⟨h.bel.size, heap_alloc_new w _⟩
  · injection hr with hr
    have := Gn.heap_lt (h.bx1 q hq).2
    omega
/-- The first box is written. -/
structure Half (T : TypeId) (V w : World) (t u : Tr) (v1 v2 : TV) (q1 q2 : Nat) : Prop where
  bel : Below V.heap.size V w
  tr1 : TrAt (fun r => V.heap.size ≤ r ∧ r ≠ q1 ∧ r ≠ q2) w t (.int .i64 v1.n) (.slice v1.A v1.m v1.c)
  tr2 : TrAt (fun r => V.heap.size ≤ r ∧ r ≠ q1 ∧ r ≠ q2) w u (.int .i64 v2.n) (.slice v2.A v2.m v2.c)
  bx1 : w.heap[q1]? = some (.cells #[.int .i64 v1.n, .slice v1.A v1.m v1.c] T (0, 0))
  bx2 : w.heap[q2]? = some (.cells #[.int .i64 0, .slice none 0 0] T (0, 0))
  low : V.heap.size ≤ q2
  ne : q1 ≠ q2
theorem Two.half {T : TypeId} {V w : World} {t u : Tr} {v1 v2 : TV} {q1 q2 : Nat} (h : Two T V w t u (some v1) (some v2) (some q1) (some q2)) : Half T V ((w.setCell ⟨q1, 0, none⟩ (.int .i64 v1.n)).setCell ⟨q1, 1, none⟩ (.slice v1.A v1.m v1.c)) t u v1 v2 q1 q2 := by
  obtain ⟨l1, b1⟩ := h.bx1 q1 rfl
  obtain ⟨l2, b2⟩ := h.bx2 q2 rfl
  have hne := h.ne q1 q2 rfl rfl
  have hk : ∀ b, q1 ≠ b → ((w.setCell ⟨q1, 0, none⟩ (.int .i64 v1.n)).setCell ⟨q1, 1, none⟩ (.slice v1.A v1.m v1.c)).heap[b]? = w.heap[b]? := fun b hb => (Gn.set_keep _ 1 _ hb).trans (Gn.set_keep _ 0 _ hb)
  have hsz : ((w.setCell ⟨q1, 0, none⟩ (.int .i64 v1.n)).setCell ⟨q1, 1, none⟩ (.slice v1.A v1.m v1.c)).heap.size = w.heap.size := by simp [World.setCell]
  refine ⟨(h.bel.setCell l1 _).setCell l1 _, (h.tr1 v1 rfl).keep (by rw [hsz]; exact Nat.le_refl _) fun r hr _ => ⟨⟨hr.1, hr.2.1 q1 rfl, hr.2.2 q2 rfl⟩, fun j => Gn.cell_same (hk r (Ne.symm (hr.2.1 q1 rfl))) j⟩, (h.tr2 v2 rfl).keep (by rw [hsz]; exact Nat.le_refl _) fun r hr _ => ⟨⟨hr.1, hr.2.1 q1 rfl, hr.2.2 q2 rfl⟩, fun j => Gn.cell_same (hk r (Ne.symm (hr.2.1 q1 rfl))) j⟩, ?_, (hk q2 hne).trans b2, l2, hne⟩
  exact Gn.heap_set (Gn.heap_set b1 0 _) 1 _
/-- Both are. -/
structure Both (T : TypeId) (V w : World) (t u : Tr) (v1 v2 : TV) (q1 q2 : Nat) : Prop where
  bel : Below V.heap.size V w
  tr1 : TrAt (fun r => V.heap.size ≤ r) w t (.int .i64 v1.n) (.slice v1.A v1.m v1.c)
  tr2 : TrAt (fun r => V.heap.size ≤ r) w u (.int .i64 v2.n) (.slice v2.A v2.m v2.c)
  bx1 : w.heap[q1]? = some (.cells #[.int .i64 v1.n, .slice v1.A v1.m v1.c] T (0, 0))
  bx2 : w.heap[q2]? = some (.cells #[.int .i64 v2.n, .slice v2.A v2.m v2.c] T (0, 0))
theorem Half.both {T : TypeId} {V w : World} {t u : Tr} {v1 v2 : TV} {q1 q2 : Nat} (h : Half T V w t u v1 v2 q1 q2) : Both T V ((w.setCell ⟨q2, 0, none⟩ (.int .i64 v2.n)).setCell ⟨q2, 1, none⟩ (.slice v2.A v2.m v2.c)) t u v1 v2 q1 q2 := by
  have hk : ∀ b, q2 ≠ b → ((w.setCell ⟨q2, 0, none⟩ (.int .i64 v2.n)).setCell ⟨q2, 1, none⟩ (.slice v2.A v2.m v2.c)).heap[b]? = w.heap[b]? := fun b hb => (Gn.set_keep _ 1 _ hb).trans (Gn.set_keep _ 0 _ hb)
  have hsz : ((w.setCell ⟨q2, 0, none⟩ (.int .i64 v2.n)).setCell ⟨q2, 1, none⟩ (.slice v2.A v2.m v2.c)).heap.size = w.heap.size := by simp [World.setCell]
  refine ⟨(h.bel.setCell h.low _).setCell h.low _, h.tr1.keep (by rw [hsz]; exact Nat.le_refl _) fun r hr _ => ⟨hr.1, fun j => Gn.cell_same (hk r (Ne.symm hr.2.2)) j⟩, h.tr2.keep (by rw [hsz]; exact Nat.le_refl _) fun r hr _ => ⟨hr.1, fun j => Gn.cell_same (hk r (Ne.symm hr.2.2)) j⟩, (hk q1 (Ne.symm h.ne)).trans h.bx1, ?_⟩
  exact Gn.heap_set (Gn.heap_set h.bx2 0 _) 1 _
end Go.Proofs.Ytdknlifpoihnmaa.Tr

namespace Go.Proofs.Ytdknlifpoihnmaa.Fx
open Go.RowKit Go.ChangeShapes Go.WideShapes
open Tr (PrsIn Num)
set_option maxRecDepth 100000
section
variable {H : Type} {enc : TypeId × Value → H} {w : World} {base : Nat} {held : Bool}
theorem made_of {fuel : Nat} {c0 c1 : Value} {y : DataW H × List MemPlace} (h : DataW.trod enc Try.prog w base (fun _ => true) held fuel 81 [c0, c1] = some y) : ∃ a b : Int, c0 = .int .i64 a ∧ c1 = .int .i64 b ∧ Num a := by
  obtain ⟨xs, m, _, _, _, hlen, hf⟩ := DataW.trod_struct Try.underlying81 h
  match xs, hlen with
  | [y0, y1], _ =>
    have f0 := hf 0 _ rfl
    have f1 := hf 1 _ rfl
    obtain ⟨k, h0, _, hw⟩ := DataW.trod_int Try.underlying3 f0
    obtain ⟨n, h1, _, _⟩ := DataW.trod_int Try.underlying3 f1
    injection h0 with h0
    injection h1 with h1
    have hw2 : (decide (IntKind.i64.min ≤ k) && decide (k ≤ IntKind.i64.max)) = true := hw
    rw [Bool.and_eq_true, decide_eq_true_iff, decide_eq_true_iff] at hw2
    exact ⟨k, n, h0, h1, hw2.1, hw2.2⟩
theorem prs_in {fuel : Nat} {v : Value} {y : DataW H × List MemPlace} (h : DataW.trod enc Try.prog w base (fun _ => true) held fuel 26 [v] = some y) : ∃ l, PrsIn w l v ∧ l.length ≤ maxLen ∧ ∀ p ∈ l, Num p.1 := by
  rcases Go.Deep.open_slice Try.underlying26 h with ⟨hcs, _⟩ | ⟨x, l, c, m, n, D, Pl, hcs, _, hl, hm, hmm, _, hel⟩
  · injection hcs with hcs
    subst hcs
    exact ⟨[], ⟨none, 0, 0, 0, rfl, fun h => absurd h (by simp), fun i hi => absurd hi (by simp)⟩, by simp, fun p hp => by cases hp⟩
  · injection hcs with hcs
    subst hcs
    have hml : l ≤ m := by rw [hmm]; split <;> omega
    have e2 : Try.prog.cellsOf 81 = 2 := by kernel_rfl
    have key : ∀ i, ∃ z : Int × Int, i < l → w.cell? ((x.add (i * 2)).add 0) = some (.int .i64 z.1) ∧ w.cell? ((x.add (i * 2)).add 1) = some (.int .i64 z.2) ∧ Num z.1 := fun i => by
      by_cases hi : i < l
      · obtain ⟨cs', hc, ht⟩ := hel i (by omega)
        rw [e2] at hc
        obtain ⟨_, hlen, hcell⟩ := World.cells?_some hc
        match cs', hlen with
        | [c0, c1], _ =>
          obtain ⟨a, b, r0, r1, hn⟩ := made_of ht
          refine ⟨(a, b), fun _ => ⟨?_, ?_, hn⟩⟩
          · rw [hcell 0 (by omega), ← r0]; rfl
          · rw [hcell 1 (by omega), ← r1]; rfl
      · exact ⟨(0, 0), fun h => absurd h hi⟩
    obtain ⟨xs, hxs⟩ := Classical.axiomOfChoice key
    have hlen : ((List.range l).map xs).length = l := by simp
    refine ⟨(List.range l).map xs, ?_, by rw [hlen]; omega, fun p hp => ?_⟩
    · rcases Nat.eq_zero_or_pos l with h0 | h0
      · exact ⟨some x, c, 0, 0, by rw [hlen], fun h => absurd h (by rw [hlen]; omega), fun i hi => absurd hi (by rw [hlen]; omega)⟩
      · have hp := (hxs 0 h0).1
        have hx0 : (x.add (0 * 2)).add 0 = x.add 0 := by simp [Addr.add]
        rw [hx0] at hp
        obtain ⟨b, off, rfl, hb⟩ := addr_at hp
        refine ⟨some ⟨b, off, none⟩, c, b, off, by rw [hlen], fun _ => ⟨rfl, hb⟩, fun i hi => ?_⟩
        obtain ⟨q0, q1, _⟩ := hxs i (by rw [← hlen]; exact hi)
        have a0 : ∀ j : Nat, ((⟨b, off, none⟩ : Addr).add (i * 2)).add j = ⟨b, off + i * 2 + j, none⟩ := fun j => by rw [addr_add, addr_add]
        rw [a0] at q0 q1
        have e : ((List.range l).map xs)[i] = xs i := by simp
        rw [e]
        exact ⟨q0, q1⟩
    · obtain ⟨i, hi, rfl⟩ := List.mem_map.1 hp
      exact (hxs i (List.mem_range.1 hi)).2.2
end
theorem prs_under {W W' : World} {l : List (Int × Int)} {v : Value} (h : PrsIn W l v) (b : Below W.heap.size W W') : PrsIn W' l v := by
  obtain ⟨A, cap, k, off, h1, h2, h3⟩ := h
  refine ⟨A, cap, k, off, h1, fun h0 => ⟨(h2 h0).1, by have := (h2 h0).2; have := b.size; omega⟩, fun i hi => ?_⟩
  have hz := (h2 (by omega)).2
  exact ⟨(b.cell (p := ⟨k, off + i * 2, none⟩) hz).trans (h3 i hi).1, (b.cell (p := ⟨k, off + i * 2 + 1, none⟩) hz).trans (h3 i hi).2⟩
end Go.Proofs.Ytdknlifpoihnmaa.Fx
