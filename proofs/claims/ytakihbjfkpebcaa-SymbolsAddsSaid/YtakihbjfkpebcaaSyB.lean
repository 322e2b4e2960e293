/-
  slices.Backward over a grammar's rules.
  The walks of symbols' firsts and of.
  What firsts tells, and the walk of of.
  The walk of symbols' once.
-/
import Derived.Test.YtakihbjfkpebcaaSyA
import Derived.Test.YtakihbjfkpebcaaGn
import Derived.Lib.Hide
import Derived.RangeFuncWrites
import Derived.RangeFuncNested
import Derived.RangeFuncBound
import Derived.RangeFuncCalls
import Derived.RangeFuncLeaves
import Derived.Shelf.Abstract
import Derived.Shelf.RegionOpen
import Derived.WalkKit
import Derived.OwnWalkIn
import Derived.TacticsInMore
import Derived.LoopNIn
import Derived.LoopIn
import Derived.Maps.OwnIn
import Derived.Maps.Views
import Derived.Maps.OwnSet

namespace Go.Proofs.Ytakihbjfkpebcaa.Sx
open Go.RowKit Go.Shelf
attribute [local go_sem] Oper.semAt_some

/-- A place and a rule: its name, its node's three cells. -/
abbrev Nm := { x : Int × Nam × Value × Value × Value // (Lit.int .i64 x.1).wf = true ∧ x.2.1.length ≤ maxLen ∧ ∃ (k : Nat) (s : ByteArray) (A : Option Addr) (q c : Nat), x.2.2.1 = .int .i64 k ∧ x.2.2.2.1 = .string s ∧ x.2.2.2.2 = .slice A q c }
/-- The rule as a value. -/
def Nm.val (x : Nm) : Value := .agg #[.string (Lx.mk x.1.2.1), x.1.2.2.1, x.1.2.2.2.1, x.1.2.2.2.2]
/-- The four cells of a rule. -/
def RwAt (W : World) (b i : Nat) (x : Nm) : Prop := W.cell? ⟨b, i * 4, none⟩ = some (.string (Lx.mk x.1.2.1)) ∧ W.cell? ⟨b, i * 4 + 1, none⟩ = some x.1.2.2.1 ∧ W.cell? ⟨b, i * 4 + 2, none⟩ = some x.1.2.2.2.1 ∧ W.cell? ⟨b, i * 4 + 3, none⟩ = some x.1.2.2.2.2
/-- What has come when k rounds are over. -/
def upto {α : Type} (f : Nat → α) (k : Nat) : List α := (List.range k).map f
theorem upto_succ {α : Type} (f : Nat → α) (k : Nat) : upto f (k + 1) = upto f k ++ [f k] := by simp [upto, List.range_succ]
theorem upto_length {α : Type} (f : Nat → α) (k : Nat) : (upto f k).length = k := by simp [upto]

/-- What a round keeps: all below n₀, and the slice's box. -/
def Kq (n₀ Bs : Nat) (W W' : World) : Prop := ∀ k, (k < n₀ ∨ k = Bs) → W'.heap[k]? = W.heap[k]?
theorem Kq.refl (n₀ Bs : Nat) (W : World) : Kq n₀ Bs W W := fun _ _ => rfl
theorem Kq.trans {n₀ Bs : Nat} {A B C : World} (h : Kq n₀ Bs A B) (k : Kq n₀ Bs B C) : Kq n₀ Bs A C := fun q hq => (k q hq).trans (h q hq)
theorem Kq.cell {n₀ Bs : Nat} {A B : World} (h : Kq n₀ Bs A B) {b : Nat} (hb : b < n₀ ∨ b = Bs) (j : Nat) : B.cell? ⟨b, j, none⟩ = A.cell? ⟨b, j, none⟩ := Gn.cell_same (h b hb) j

set_option maxRecDepth 100000 in
set_option maxHeartbeats 2000000 in
/-- slices.Backward's closure over texts: for every loop body that keeps what lay below n₀. -/
theorem back1_in (F : Fence) (n : Nat) (h7 : F.fn 52) (hro : F.round = none) (hn : 1 ≤ n) (l Bs n₀ b len cap : Nat) (A : Option Addr) (f : Nat → Nm) (hlen : len ≤ 1099511627776) (hA : 0 < len → A = some ⟨b, 0, none⟩ ∧ b < n₀) (J Jx : List Nm → World → Prop)
    (hY : ∀ pre x W, J pre W → pre.length < len → YieldAt F (n - 1) Try.prog l #[.int .i64 x.1.1, x.val] W fun e W' =>
      (e = .returned (.bool true) ∧ J (pre ++ [x]) W' ∧ Kq n₀ Bs W W') ∨ (e = .returned (.bool false) ∧ Jx (pre ++ [x]) W'))
    (W : World) (hBs : W.cell? ⟨Bs, 0, none⟩ = some (.slice A len cap)) (hc : ∀ j, j < len → RwAt W b (len - 1 - j) (f j)) (hf : ∀ j, j < len → (f j).1.1 = ((len - 1 - j : Nat) : Int)) (h0 : J [] W) :
    CallsIn F n Try.prog 52 #[.func (.yield l) #[] #[], .pointer (some ⟨Bs, 0, none⟩)] W fun e W' => (∃ v, e = .returned v) ∧
      ((∃ ys, ys = upto f len ∧ J ys W') ∨ (∃ pre, (∃ k, k ≤ len ∧ pre = upto f k) ∧ Jx pre W')) := by
  refine callsIn_of_wp Try.func52 rfl h7 ?_ hro
  simp only [Try.ntmps52, List.size_toArray, List.length_cons, List.length_nil, Nat.reduceAdd, Nat.reduceSub, Array.replicate_succ, Array.replicate_zero, List.push_toArray, List.append_toArray, List.nil_append, List.cons_append]
  gi_wp2
  gi_loopw [3] (fun i wr => ∃ k : Nat, k ≤ len ∧ i = .int .i64 ((len : Int) - 1 - k) ∧ J (upto f k) wr ∧ Kq n₀ Bs W wr)
    (fun i _ => (intOf i + 1).toNat)
  case atStart => exact ⟨0, Nat.zero_le _, by simp, h0, Kq.refl _ _ _⟩
  case round =>
    obtain ⟨k, hk, rfl, hJs, hnx⟩ := hrel
    have hbx : wr.cell? ⟨Bs, 0, none⟩ = some (.slice A len cap) := (hnx.cell (.inr rfl) 0).trans hBs
    by_cases hlt : k < len
    · obtain ⟨rfl, hb⟩ := hA (by omega)
      obtain ⟨d0, d1, d2, d3⟩ := hc k hlt
      have c0 := (hnx.cell (.inl hb) _).trans d0
      have c1 := (hnx.cell (.inl hb) _).trans d1
      have c2 := (hnx.cell (.inl hb) _).trans d2
      have c3 := (hnx.cell (.inl hb) _).trans d3
      obtain ⟨fn, tmps, assign, body, hy, hR⟩ := hY _ (f k) wr hJs (by rw [upto_length]; exact hlt)
      have hfk := hf k hlt
      have e1 : (len : Int) - 1 - k = ((len - 1 - k : Nat) : Int) := by omega
      obtain ⟨q, hq⟩ : ∃ q, q = len - 1 - k := ⟨_, rfl⟩
      obtain ⟨tx, htx⟩ : ∃ tx, tx = Lx.mk (f k).1.2.1 := ⟨_, rfl⟩
      unfold Nm.val at hy
      obtain ⟨kk, ss, AA, qq, cc, f1, f2, f3⟩ := (f k).2.2.2
      rw [hfk, ← hq, ← htx, f1, f2, f3] at hy
      rw [← hq] at c0 c1 c2 c3
      rw [← htx] at c0
      rw [f1] at c1
      rw [f2] at c2
      rw [f3] at c3
      rw [e1, ← hq]
      have hq0 : (0 : Int) ≤ (q : Int) := by omega
      have hq1 : (q : Int) < (len : Int) := by omega
      have HQ := Lib.hid hq
      clear hfk htx e1 hq f1 f2 f3 d0 d1 d2 d3
      gi_wp2
      refine hR.mono ?_
      rintro e W3 (⟨rfl, hJ3, hk3⟩ | ⟨rfl, hJx3⟩)
      · gi_wp2
        go_roundw
        case rel =>
          have h9 := HQ.out
          refine ⟨k + 1, ?_, ?_, ?_, hnx.trans hk3⟩
          · omega
          · congr 1
            omega
          · rw [upto_succ]; exact hJ3
        case measure => simp [intOf]
      · gi_wp2
        refine bodyPost_ret (results_none rfl _ _ _) rfl ?_
        exact ⟨⟨_, rfl⟩, .inr ⟨_, ⟨k + 1, by omega, (upto_succ _ _).symm⟩, hJx3⟩⟩
    · obtain rfl : k = len := by omega
      have hneg : ¬ (0 : Int) ≤ (k : Int) - 1 - k := by omega
      gi_wp2
      go_end0
      exact ⟨⟨_, rfl⟩, .inl hJs⟩

set_option maxHeartbeats 1000000 in
theorem back_in (F : Fence) (n : Nat) (h5 : F.fn 40) (hro : F.round = none) (a : Option Addr) (len cap : Nat) (w : World) :
    CallsIn F n Try.prog 40 #[.slice a len cap] w fun e w' => e = .returned (.func (.func 52) #[] #[.pointer (some ⟨w.heap.size, 0, none⟩)]) ∧ w' = w.alloc (.cells #[.slice a len cap] 23) := by
  refine callsIn_of_wp Try.func40 rfl h5 ?_ hro
  simp only [Try.ntmps40, List.size_toArray, List.length_cons, List.length_nil, Nat.reduceAdd, Nat.reduceSub, Array.replicate_succ, Array.replicate_zero, List.push_toArray, List.append_toArray, List.nil_append, List.cons_append]
  gi_wp2
  go_ret
  exact ⟨rfl, rfl⟩
theorem back_stops (F : Fence) (n : Nat) (h7 : F.fn 52) (hro : F.round = none) (hn : 1 ≤ n) (Bs n₀ b len cap : Nat) (A : Option Addr) (f : Nat → Nm) (hlen : len ≤ 1099511627776) (hA : 0 < len → A = some ⟨b, 0, none⟩ ∧ b < n₀) (w : World) (hBs : Bs < w.heap.size) (hn₀ : n₀ ≤ w.heap.size)
    (hb : w.cell? ⟨Bs, 0, none⟩ = some (.slice A len cap)) (hc : ∀ j, j < len → RwAt w b (len - 1 - j) (f j)) (hf : ∀ j, j < len → (f j).1.1 = ((len - 1 - j : Nat) : Int)) :
    SeqStopsK F n Try.prog 52 #[.pointer (some ⟨Bs, 0, none⟩)] (fun x : Nm => #[Value.int .i64 x.1.1, x.val]) (Kq n₀ Bs) (fun ys => ys = upto f len) (fun pre => ∃ k, k ≤ len ∧ pre = upto f k) len w := fun l J Jx W hW _ _ hY h0 =>
  back1_in F n h7 hro hn l Bs n₀ b len cap A f hlen hA J Jx hY W ((hW.cell (p := ⟨Bs, 0, none⟩) (show Bs < w.heap.size by omega)).trans hb) (fun j hj => by
    have hbl : b < w.heap.size := by have := (hA (by omega)).2; omega
    obtain ⟨d0, d1, d2, d3⟩ := hc j hj
    exact ⟨(hW.cell (p := ⟨b, _, none⟩) hbl).trans d0, (hW.cell (p := ⟨b, _, none⟩) hbl).trans d1, (hW.cell (p := ⟨b, _, none⟩) hbl).trans d2, (hW.cell (p := ⟨b, _, none⟩) hbl).trans d3⟩) hf h0
end Go.Proofs.Ytakihbjfkpebcaa.Sx

namespace Go.Proofs.Ytakihbjfkpebcaa.Sx
open Go.RowKit Go.Shelf
attribute [local go_sem] Oper.semAt_some

theorem cell_of_box_n {W : World} {B : Nat} {v : Value} {t : TypeId} (h : W.heap[B]? = some (.cells #[v] t (0, 0))) : W.cell? ⟨B, 0, none⟩ = some v ∧ W.frozen? ⟨B, 0, none⟩ = false := by
  constructor <;> simp [World.cell?, World.frozen?, h]
theorem cell_new_n (W : World) (v : Value) (t : TypeId) : (W.alloc (.cells #[v] t)).cell? ⟨W.heap.size, 0, none⟩ = some v ∧ (W.alloc (.cells #[v] t)).frozen? ⟨W.heap.size, 0, none⟩ = false :=
  cell_of_box_n (World.alloc_heap_new W _)
theorem cell_alloc_n {W : World} {a : Addr} {v : Value} (o : Obj) (h : W.cell? a = some v) : (W.alloc o).cell? a = some v := cell_kept h (World.grownBy_alloc W o none) (fun r e => by cases e)
theorem blk_lt {W : World} {b j : Nat} {v : Value} (h : W.cell? ⟨b, j, none⟩ = some v) : b < W.heap.size := World.block_lt_of_cell? W _ h

/-- Each name that came, put at its place, one behind another. -/
def numD (xs : List Nm) : DataW Unit := xs.foldl (fun D x => D.put (.string x.1.2.1) (.lit (.int .i64 x.1.1))) (.map [])
theorem numD_snoc (pre : List Nm) (x : Nm) : numD (pre ++ [x]) = (numD pre).put (.string x.1.2.1) (.lit (.int .i64 x.1.1)) := by simp [numD]

set_option maxRecDepth 100000 in
set_option maxHeartbeats 4000000 in
theorem firsts_in (F : Fence) (n : Nat) (h3 : F.fn 25) (h4 : F.fn 40) (h5 : F.fn 52) (hro : F.round = none) (hn : 3 ≤ n) (b len cap : Nat) (A : Option Addr) (f : Nat → Nm) (hlen : len ≤ 1099511627776) (w : World) (hA : 0 < len → A = some ⟨b, 0, none⟩ ∧ b < w.heap.size)
    (hc : ∀ j, j < len → RwAt w b (len - 1 - j) (f j)) (hf : ∀ j, j < len → (f j).1.1 = ((len - 1 - j : Nat) : Int)) :
    CallsIn F n Try.prog 25 #[.slice A len cap] w fun e W' => e = .returned (.map (some w.heap.size)) ∧ W'.ownsMap Try.prog 9 (plainElem (H := Unit) Try.prog 3) w.heap.size len (numD (upto f len)) ∧ Below w.heap.size w W' := by
  have h1 : 1 ≤ n := by omega
  have hmm := @run_makeMap Try.prog
  refine callsIn_of_wp_marks Try.func25 rfl h3 ?_ hro
  simp only [Try.ntmps25, List.size_toArray, List.length_cons, List.length_nil, Nat.reduceAdd, Nat.reduceSub, Array.replicate_succ, Array.replicate_zero, List.push_toArray, List.append_toArray, List.nil_append, List.cons_append]
  gi_wp2_with (gi_at_call 40; refine (back_in F (n - 1) h4 hro _ _ _ _).mono ?_; rintro e w' ⟨rfl, rfl⟩)
  have hm0 := World.ownsMap_made w Try.prog 9 (plainElem (H := Unit) Try.prog 3)
  have cS := cell_new_n (w.alloc (.map #[] 0)) (.map (some w.heap.size)) 72
  have cN := cell_new_n ((w.alloc (.map #[] 0)).alloc (.cells #[.map (some w.heap.size)] 72)) (.slice A len cap) 23
  simp only [World.size_alloc] at cS cN
  have hB0 : Below w.heap.size w (((w.alloc (.map #[] 0)).alloc (.cells #[.map (some w.heap.size)] 72)).alloc (.cells #[.slice A len cap] 23)) := (((Below.refl _ w).alloc (Nat.le_refl _) _).alloc (by simp) _).alloc (by simp; omega) _
  refine wpIn_rangeFunc_ownH hro h1 (gf := 52) (lb := #[.pointer (some ⟨w.heap.size + 1 + 1, 0, none⟩)]) rfl h5 (enters_of Try.func52 (by kernel_rfl) rfl)
    (back_stops F (n - 1) h5 hro (by omega) (w.heap.size + 1 + 1) w.heap.size b len cap A f hlen hA _ (by simp) (by simp; omega) cN.1 (fun j hj => by
      obtain ⟨d0, d1, d2, d3⟩ := hc j hj
      have hbl : b < w.heap.size := (hA (by omega)).2
      exact ⟨(hB0.cell (p := ⟨b, _, none⟩) hbl).trans d0, (hB0.cell (p := ⟨b, _, none⟩) hbl).trans d1, (hB0.cell (p := ⟨b, _, none⟩) hbl).trans d2, (hB0.cell (p := ⟨b, _, none⟩) hbl).trans d3⟩) hf) (fun h k => h.trans k) (fun W l o o' g1 g2 g3 g4 k hk => (belowK_b (n₀ := w.heap.size + 3) (by simp) W l o o' g1 g2 g3 g4).block k (by omega)) (Below.refl _ _) (fun _ => rfl)
    (fun pre W => (W.cell? ⟨w.heap.size + 1, 0, none⟩ = some (.map (some w.heap.size)) ∧ W.ownsMap Try.prog 9 (plainElem (H := Unit) Try.prog 3) w.heap.size pre.length (numD pre) ∧ w.heap.size + 3 ≤ W.heap.size) ∧ Below w.heap.size w W)
    (fun _ _ _ => False)
    (OwnFrom.and (fun s A B row hs hg hr => ⟨cell_kept hs.1 hg (fun r e => (hr r e).2), hs.2.1.kept hg (fun e => by have := (hr _ e.symm).1; simp at this; omega), Nat.le_trans hs.2.2 hg.size⟩) (ownFrom_below (Nat.le_refl _) (by simp; omega)))
    (fun _ _ _ _ _ hs _ _ => hs)
    ⟨⟨cell_alloc_n _ cS.1, (hm0.alloc _).alloc _, by simp⟩, hB0⟩
    (fun x a' W => ∃ r : Nat, a' = { tmps := #[.slice A len cap, undef, .map none, .pointer (some ⟨w.heap.size + 1, 0, none⟩), .int .i64 x.1.1, .pointer (some ⟨r, 0, none⟩), .map (some w.heap.size), .slice A len cap, .func (.func 52) #[] #[.pointer (some ⟨w.heap.size + 1 + 1, 0, none⟩)], .int .i64 x.1.1, x.val, undef, undef, undef, undef, undef], defers := [] } ∧ W.cell? ⟨r, 0, none⟩ = some (.string (Lx.mk x.1.2.1)))
    (fun x a' s A B row hs hg hr => by
      obtain ⟨r, h7, h8⟩ := hs
      exact ⟨r, h7, cell_kept h8 hg (fun r e => (hr r e).2)⟩) ?assign ?body ?done ?stop
  case assign =>
    rintro l pre x W K ⟨⟨hc, hown, hsz⟩, hB⟩ hK
    have hval : x.val = .agg #[.string (Lx.mk x.1.2.1), x.1.2.2.1, x.1.2.2.2.1, x.1.2.2.2.2] := rfl
    obtain ⟨kk, ss, AA, qq, cc, f1, f2, f3⟩ := x.2.2.2
    rw [f1, f2, f3] at hval
    have hK2 := hK _ (W.alloc (.cells #[.string (Lx.mk x.1.2.1), .int .i64 kk, .string ss, .slice AA qq cc] 65)) (KeepsFrom.of_grownBy (World.grownBy_alloc W _ none) (fun j e => by cases e)) (fun k hk => Below.heap_alloc _ _ _ (by omega)) ⟨⟨cell_alloc_n _ hc, hown.alloc _, by simp; omega⟩, hB.alloc hB.size _⟩ ⟨W.heap.size, rfl, cell_of_row _ _ 0 _ _ (0, 0) (heap_alloc_new W _)⟩
    rw [hval] at hK2
    rw [hval]
    clear hK hval f1 f2 f3
    gi_wp2
    exact hK2
  case body =>
    rintro l pre x a' W _ _ ⟨⟨hc, hown, hsz⟩, hB⟩ ⟨r, rfl, hr⟩ hlt
    have hml : pre.length < maxLen := by unfold maxLen; omega
    have hkey := Go.WideMaps.keyOf_string_mk (P := Try.prog) Try.underlying9 (s := Lx.mk x.1.2.1) x.2.2.1
    gi_wp2_with (gi_at_mapUpdate; refine wpListIn_mapUpdate_own _ rfl _ _ _ 72 rfl 9 3 (Maps.string_keyed Try.underlying9) Try.underlying72 _ w.heap.size pre.length _ rfl hown hml _ _ _ rfl rfl hkey _ [] (plainElem_int Try.underlying3 x.2.1) ?_; intro w1 hown1 hgrow1)
    obtain ⟨es, ck, hh, _⟩ := hown
    exact ⟨KeepsFrom.of_grownBy hgrow1 (fun j e => by cases e; simp; omega), fun k hk => hgrow1.block k (by omega) (fun e => by cases e; omega),
      ⟨cell_kept hc hgrow1 (fun r e => by cases e; exact ⟨_, hh, rfl⟩), by rw [numD_snoc, List.length_append]; exact hown1, Nat.le_trans hsz hgrow1.size⟩, hB.grown hgrow1 hB.size (fun k e => by cases e; exact Nat.le_refl _)⟩
  case done =>
    rintro D ys W hD rfl ⟨⟨hc, hown, hsz⟩, hB⟩ hK
    rw [upto_length] at hown
    gi_wp2
    refine ⟨by simp, .inl ⟨_, _, rfl, run_takeDeferred hK, ?_⟩⟩
    exact ⟨_, results_tmp rfl _ _ _, rfl, hown.kept (grownBy_putObj' _ D _) (fun e => by cases e; simp at hD; omega), hB.trans (belowK_b (w := w) (Nat.le_refl _) W D _ _ (by simp at hD; omega) hK rfl rfl)⟩
  case stop =>
    rintro D c pre W _ _ h _
    exact h.elim
end Go.Proofs.Ytakihbjfkpebcaa.Sx

namespace Go.Proofs.Ytakihbjfkpebcaa.Sx
open Go.RowKit
set_option maxRecDepth 100000

/-- The places of names, the first one's at k, of several alike that of the first. -/
def plP : List Rul → Nat → DataW Unit
  | [], _ => .map []
  | a :: r, k => (plP r (k + 1)).put (.string a.1) (.lit (.int .i64 (k : Int)))
def numP (xs : List (Int × Nam)) : DataW Unit := xs.foldl (fun D x => D.put (.string x.2) (.lit (.int .i64 x.1))) (.map [])
theorem numD_numP (xs : List Nm) : numD xs = numP (xs.map fun x => (x.1.1, x.1.2.1)) := by
  unfold numD numP
  rw [List.foldl_map]
theorem numP_snoc (xs : List (Int × Nam)) (x : Int × Nam) : numP (xs ++ [x]) = (numP xs).put (.string x.2) (.lit (.int .i64 x.1)) := by simp [numP]
def rul0 : Rul := ([], .node 0 [] [])
theorem numP_plP : ∀ (l : List Rul) (k : Nat), numP ((List.range l.length).map fun j => (((k + (l.length - 1 - j) : Nat) : Int), (l.getD (l.length - 1 - j) rul0).1)) = plP l k
  | [], k => rfl
  | a :: r, k => by
    rw [List.length_cons, List.range_succ, List.map_append, List.map_singleton, numP_snoc, plP, ← numP_plP r (k + 1)]
    have e1 : ((List.range r.length).map fun j => (((k + (r.length + 1 - 1 - j) : Nat) : Int), ((a :: r).getD (r.length + 1 - 1 - j) rul0).1)) = (List.range r.length).map fun j => (((k + 1 + (r.length - 1 - j) : Nat) : Int), (r.getD (r.length - 1 - j) rul0).1) := by
      refine List.map_congr_left fun j hj => ?_
      have hj2 := List.mem_range.1 hj
      have e2 : r.length + 1 - 1 - j = (r.length - 1 - j) + 1 := by omega
      rw [e2, List.getD_cons_succ, show k + (r.length - 1 - j + 1) = k + 1 + (r.length - 1 - j) by omega]
    rw [e1]
    have e3 : r.length + 1 - 1 - r.length = 0 := by omega
    simp only [e3, Nat.add_zero, List.getD_cons_zero]
theorem key_lit (a : Nam) : WideAt.IsKeyLit (.string a) := trivial
theorem plP_tidy : ∀ (l : List Rul) (k : Nat), Maps.Tidy (plP l k)
  | [], _ => Maps.tidy_empty
  | a :: r, k => (plP_tidy r (k + 1)).put (key_lit a.1) _
theorem first_ge : ∀ (l : List Rul) (s : Nam) (k : Nat), firstGo l s k = -1 ∨ (k : Int) ≤ firstGo l s k
  | [], s, k => .inl rfl
  | a :: r, s, k => by
    rw [firstGo]
    split
    · exact .inr (Int.le_refl _)
    · rcases first_ge r s (k + 1) with h | h
      · exact .inl h
      · exact .inr (by omega)
theorem plP_at (s : Nam) (z : DataW Unit) : ∀ (l : List Rul) (k : Nat), (plP l k).atKey (.string s) z = if firstGo l s k = -1 then z else .lit (.int .i64 (firstGo l s k))
  | [], k => by simp [plP, firstGo, DataW.atKey]
  | a :: r, k => by
    rw [plP, firstGo]
    by_cases h : a.1 = s
    · rw [h, Maps.atKey_put_same (plP_tidy r (k + 1)).isMap (key_lit s), if_pos rfl, if_neg (by omega)]
    · rw [Maps.atKey_put_other (fun e => h (by injection e with e; exact e.symm)), plP_at s z r (k + 1), if_neg h]
theorem plP_has (s : Nam) : ∀ (l : List Rul) (k : Nat), Maps.has (plP l k) (.string s) = decide (firstGo l s k ≠ -1)
  | [], _ => by simp [plP, Maps.has, firstGo]
  | a :: r, k => by
    rw [plP, firstGo]
    by_cases h : a.1 = s
    · rw [h, Maps.has_put_same (plP_tidy r (k + 1)).isMap (key_lit s), if_pos rfl, decide_eq_true (by omega)]
    · rw [Maps.has_put_other (fun e => h (by injection e with e; exact e.symm)), plP_has s r (k + 1), if_neg h]
theorem zero_int (w : World) : (zeroValue 3).run Try.prog w = .ok (.int .i64 0) w := by kernel_rfl

/-- The places of a grammar's rules. -/
def PlAt (W : World) (M n : Nat) (rs : List Rul) : Prop := W.ownsMap Try.prog 9 (plainElem (H := Unit) Try.prog 3) M n (plP rs 0)
theorem firsts_any (rs : List Rul) (hl : rs.length ≤ 1099511627776) (hs : ∀ r ∈ rs, r.1.length ≤ 1048576) (P : Nat → Prop) (W : World) (v : Value) (h : RlsAt P W rs v) :
    Calls Try.prog 25 #[v] W fun e w' => e = .returned (.map (some W.heap.size)) ∧ PlAt w' W.heap.size rs.length rs ∧ Below W.heap.size W w' := by
  obtain ⟨A, cap, b, f0, f1, f2, rfl, hcap, h3, h4⟩ := h
  have hwf : ∀ j : Nat, (Lit.int .i64 ((rs.length - 1 - j : Nat) : Int)).wf = true := fun j => WalkArith.wf_i64 (by omega)
  have hform : ∀ j, j < rs.length → ∃ (k : Nat) (s : ByteArray) (A : Option Addr) (q c : Nat), f0 (rs.length - 1 - j) = .int .i64 k ∧ f1 (rs.length - 1 - j) = .string s ∧ f2 (rs.length - 1 - j) = .slice A q c := fun j hj => by
    obtain ⟨k, s, A, q, c, e0, e1, e2⟩ := (h4 (rs.length - 1 - j) (by omega)).2.form
    exact ⟨k, s, A, q, c, e0, e1, e2⟩
  let g : Nat → Nm := fun j => if hj : j < rs.length then ⟨(((rs.length - 1 - j : Nat) : Int), (rs.getD (rs.length - 1 - j) rul0).1, f0 (rs.length - 1 - j), f1 (rs.length - 1 - j), f2 (rs.length - 1 - j)), hwf j, by
      rw [List.getD_eq_getElem?_getD, List.getElem?_eq_getElem (show rs.length - 1 - j < rs.length by omega)]
      have := hs _ (List.getElem_mem (show rs.length - 1 - j < rs.length by omega))
      show (rs[rs.length - 1 - j]).1.length ≤ maxLen
      unfold maxLen; omega, hform j hj⟩ else ⟨(0, [], .int .i64 0, .string ⟨#[]⟩, .slice none 0 0), by decide, Nat.zero_le _, 0, _, _, _, _, rfl, rfl, rfl⟩
  have hg : ∀ j, (hj : j < rs.length) → (g j).1 = (((rs.length - 1 - j : Nat) : Int), (rs.getD (rs.length - 1 - j) rul0).1, f0 (rs.length - 1 - j), f1 (rs.length - 1 - j), f2 (rs.length - 1 - j)) := fun j hj => by
    show (dite _ _ _ : Nm).1 = _
    rw [dif_pos hj]
  have := (callsIn_wide (n := 3)).1 (firsts_in Fence.wide 3 trivial trivial trivial rfl (Nat.le_refl _) b rs.length cap A g hl W (fun h0 => ⟨(h3 h0).1, (h3 h0).2.1⟩)
    (fun j hj => by
      have hj2 : rs.length - 1 - j < rs.length := by omega
      unfold RwAt
      rw [hg j hj]
      obtain ⟨⟨d0, d1, d2, d3⟩, _⟩ := h4 _ hj2
      refine ⟨?_, d1, d2, d3⟩
      rw [d0, List.getD_eq_getElem?_getD, List.getElem?_eq_getElem hj2]
      rfl) (fun j hj => by rw [hg j hj]))
  refine this.mono fun e w' ⟨h1, h2, h3⟩ => ⟨h1, ?_, h3⟩
  have e1 : numD (upto g rs.length) = plP rs 0 := by
    rw [numD_numP, ← numP_plP, upto, List.map_map]
    congr 1
    refine List.map_congr_left fun j hj => ?_
    have := hg j (List.mem_range.1 hj)
    simp only [Function.comp_apply, this, Nat.zero_add]
  rw [e1] at h2
  exact h2

set_option maxHeartbeats 2000000 in
theorem of_any (rs : List Rul) (s : Nam) (hs : s.length ≤ 1048576) (W : World) (M n : Nat) (h : PlAt W M n rs) :
    Calls Try.prog 27 #[.map (some M), .string (Lx.mk s)] W fun e w' => e = .returned (.int .i64 (firstP rs s)) ∧ W = w' := by
  have hkey := Go.WideMaps.keyOf_string_mk (P := Try.prog) Try.underlying9 (s := Lx.mk s) (by show s.length ≤ maxLen; unfold maxLen; omega)
  have hat := fun z => plP_at s z rs 0
  have hhas := plP_has s rs 0
  have hown : W.ownsMap Try.prog 9 (plainElem (H := Unit) Try.prog 3) M n (plP rs 0) := h
  obtain ⟨R, hR⟩ : ∃ R, R = firstP rs s := ⟨_, rfl⟩
  have hR2 : firstGo rs s 0 = R := hR.symm
  rw [← hR]
  rw [hR2] at hhas
  have hat2 : ∀ z, (plP rs 0).atKey (.string s) z = if R = -1 then z else .lit (.int .i64 R) := fun z => by rw [hat z, hR2]
  obtain ⟨D, hD⟩ : ∃ D, D = plP rs 0 := ⟨_, rfl⟩
  rw [← hD] at hown hhas hat2
  have HA := Lib.hid hat2
  have HH := Lib.hid hhas
  clear hat hR hR2 hat2 hhas h hD
  by_cases hr : R = -1
  · have e1 : Maps.has D (.string s) = false := by rw [HH.out, hr]; rfl
    have E1 := Lib.hid e1
    subst hr
    clear e1
    go_enter Try.func27, Try.ntmps27
    go_wp2_with (at_lookup; refine wpList_lookup_own_ok_int _ rfl _ _ 72 rfl 9 3 .i64 (Maps.string_keyed Try.underlying9) Try.underlying72 Try.underlying3 (zero_int _) M n _ rfl hown _ _ rfl hkey ?_; intro c hat hwc; rw [show Maps.has D (.string (Lx.mk s).data.toList) = false from E1.out]; clear hat)
    go_ret
    exact ⟨rfl, rfl⟩
  · have e1 : Maps.has D (.string s) = true := by rw [HH.out, decide_eq_true hr]
    have E1 := Lib.hid e1
    have HR := Lib.hid hr
    clear e1 hr
    go_enter Try.func27, Try.ntmps27
    go_wp2_with (at_lookup; refine wpList_lookup_own_ok_int _ rfl _ _ 72 rfl 9 3 .i64 (Maps.string_keyed Try.underlying9) Try.underlying72 Try.underlying3 (zero_int _) M n _ rfl hown _ _ rfl hkey ?_; intro c hat hwc; rw [show Maps.has D (.string (Lx.mk s).data.toList) = true from E1.out]; have hc : c = R := (by have h8 := hat.symm.trans ((HA.out _).trans (if_neg HR.out)); injection h8 with h8; injection h8); subst hc; clear hat)
    go_ret
    exact ⟨rfl, rfl⟩
end Go.Proofs.Ytakihbjfkpebcaa.Sx

namespace Go.Proofs.Ytakihbjfkpebcaa.Sx
open Go.RowKit
set_option maxRecDepth 100000
set_option linter.unusedSimpArgs false
set_option linter.unusedVariables false

theorem own_of_block1 {W W' : World} {base n : Nat} {e : TypeId} {v : Value} {xs : List Value} (h : W.ownsRow base e 1 v n xs) (hb : ∀ g, v.ownBlock = some g → W'.heap[g]? = W.heap[g]?) : W'.ownsRow base e 1 v n xs := by
  refine ⟨h.1, ?_⟩
  rcases h.2 with h2 | ⟨g, cp, cur, h2, h3, h4, h5⟩
  · exact .inl h2
  · exact .inr ⟨g, cp, cur, h2, h3, by rw [hb g (by rw [h2]; rfl)]; exact h4, h5⟩
theorem own_mono1 {w : World} {base base' : Nat} {e : TypeId} {size : Nat} {v : Value} {n : Nat} {xs : List Value} (h : w.ownsRow base e size v n xs) (hb : base' ≤ base) : w.ownsRow base' e size v n xs := by
  refine ⟨h.1, ?_⟩
  rcases h.2 with h2 | ⟨g, cp, cur, h2, h3, h4⟩
  · exact .inl h2
  · exact .inr ⟨g, cp, cur, h2, Nat.le_trans hb h3, h4⟩
theorem zero_unit (w : World) : (zeroValue 95).run Try.prog w = .ok (.agg #[]) w := by kernel_rfl
/-- Names as a set. -/
def setS (M : List Nam) : DataW Unit := M.foldl (fun D x => D.put (.string x) (.agg [])) (.map [])
theorem setS_snoc (M : List Nam) (x : Nam) : setS (M ++ [x]) = (setS M).put (.string x) (.agg []) := by simp [setS]
theorem setS_tidy_from (M : List Nam) : ∀ (D : DataW Unit), Maps.Tidy D → Maps.Tidy (M.foldl (fun D x => D.put (.string x) (.agg [])) D) := by
  induction M with
  | nil => exact fun D h => h
  | cons x r ih => exact fun D h => ih _ (h.put (key_lit x) _)
theorem setS_has_from (x : Nam) (M : List Nam) : ∀ (D : DataW Unit), Maps.Tidy D → Maps.has (M.foldl (fun D x => D.put (.string x) (.agg [])) D) (.string x) = (Maps.has D (.string x) || decide (x ∈ M)) := by
  induction M with
  | nil => intro D _; simp
  | cons y r ih =>
    intro D h
    rw [List.foldl_cons, ih _ (h.put (key_lit y) _)]
    by_cases e : x = y
    · subst e
      rw [Maps.has_put_same h.isMap (key_lit x)]
      simp
    · rw [Maps.has_put_other (fun e2 => e (by injection e2))]
      simp [e]
theorem setS_has (x : Nam) (M : List Nam) : Maps.has (setS M) (.string x) = decide (x ∈ M) := by
  rw [setS, setS_has_from x M _ Maps.tidy_empty]
  simp [Maps.has]
/-- A row of names. -/
def NmsAt (W : World) (l : List Nam) (v : Value) : Prop :=
  ∃ (A : Option Addr) (cap b : Nat), v = .slice A l.length cap ∧ (0 < l.length → A = some ⟨b, 0, none⟩ ∧ b < W.heap.size) ∧ ∀ (i : Nat) (h : i < l.length), W.cell? ⟨b, i, none⟩ = some (strV l[i])
theorem NmsAt.under {W W' : World} {l : List Nam} {v : Value} (h : NmsAt W l v) (b : Below W.heap.size W W') : NmsAt W' l v := by
  obtain ⟨A, cap, c, h1, h2, h3⟩ := h
  refine ⟨A, cap, c, h1, fun h0 => ⟨(h2 h0).1, Nat.lt_of_lt_of_le (h2 h0).2 b.size⟩, fun i hi => ?_⟩
  exact (b.cell (p := ⟨c, i, none⟩) (h2 (by omega)).2).trans (h3 i hi)
theorem NmsAt.of_own {W : World} {base : Nat} {e : TypeId} {v : Value} {l : List Nam} {n : Nat} (hn : l.length = n) (h : W.ownsRow base e 1 v n (l.map strV)) : NmsAt W l v := by
  subst hn
  rcases h.2 with ⟨rfl, hn⟩ | ⟨g, cp, cur, rfl, hbr, hh, hnc, _⟩
  · have e : l = [] := List.eq_nil_of_length_eq_zero hn
    subst e
    exact ⟨none, 0, 0, rfl, fun h => absurd h (by simp), fun i h => absurd h (by simp)⟩
  · have hc := h.cells (g := g) rfl
    refine ⟨_, cp, g, rfl, fun _ => ⟨rfl, Gn.heap_lt hh⟩, fun i hi => ?_⟩
    have := hc i (strV l[i]) (by simp [hi])
    rwa [Gn.add_row] at this
theorem onceP_take (l : List Nam) (i : Nat) (h : i < l.length) : onceP (l.take (i + 1)) = if l[i] ∈ onceP (l.take i) then onceP (l.take i) else onceP (l.take i) ++ [l[i]] := by
  rw [List.take_succ_eq_append_getElem h]
  exact onceGo_snoc _ _ _
theorem onceP_len (l : List Nam) : ∀ i, i ≤ l.length → (onceP (l.take i)).length ≤ i
  | 0, _ => by simp [onceP, onceGo]
  | i + 1, h => by
    have ih := onceP_len l i (by omega)
    rw [onceP_take l i (by omega)]
    split
    · omega
    · rw [List.length_append]; simp; omega

set_option maxHeartbeats 8000000 in
theorem once_any (l : List Nam) (hn : l.length ≤ 1099511627776) (hs : ∀ s ∈ l, s.length ≤ 1048576) (W : World) (v : Value) (h : NmsAt W l v) :
    Calls Try.prog 32 #[v] W fun e w' => ∃ v', e = .returned v' ∧ w'.ownsRow W.heap.size 9 1 v' (onceP l).length ((onceP l).map strV) ∧ Below W.heap.size W w' := by
  obtain ⟨i0, hi0, hz0, hz1, hz2⟩ := info_parts strinfo
  have hmm := @run_makeMap Try.prog
  obtain ⟨A, cap, b, rfl, h3, h4⟩ := h
  obtain ⟨n, hn1⟩ : ∃ n, n = l.length := ⟨_, rfl⟩
  rw [← hn1] at h3 hn ⊢
  have HN := Lib.hid hn1
  have H3 := Lib.hid h3
  have H4 := Lib.hid h4
  have HSS := Lib.hid hs
  have HMD := Lib.hid (World.ownsMap_made W Try.prog 9 (unitElem (H := Unit)))
  have HB0 := Lib.hid ((Below.refl W.heap.size W).alloc (Nat.le_refl _) (.map #[] 0))
  clear hn1 h3 h4 hs
  go_enter Try.func32, Try.ntmps32
  go_wp2_with fail
  go_loopw [4, 12] (fun lv i wr => ∃ j : Nat, j ≤ n ∧ i = .int .i64 j ∧ wr.ownsRow (W.heap.size + 1) 9 1 lv (onceP (l.take j)).length ((onceP (l.take j)).map strV) ∧ wr.ownsMap Try.prog 9 (unitElem (H := Unit)) W.heap.size (onceP (l.take j)).length (setS (onceP (l.take j))) ∧ Below W.heap.size W wr ∧ W.heap.size + 1 ≤ wr.heap.size) (fun _ i _ => n - (intOf i).toNat)
  case atStart => exact ⟨0, Nat.zero_le _, rfl, World.ownsRow_nil _ _ _ _, HMD.out, HB0.out, by simp⟩
  case round =>
    obtain ⟨j, hj, rfl, hrow, hmap, hb, hsz⟩ := hrel
    obtain ⟨Au, cu, rfl⟩ := Gn.slice_of hrow
    have HB := Lib.hid hb
    by_cases hjn : j < n
    · have hjn2 : (j : Int) < (n : Int) := by omega
      have hjl : j < l.length := by rw [← HN.out]; exact hjn
      obtain ⟨rfl, hbl⟩ := H3.out (by omega)
      have y := (hb.cell (p := ⟨b, j, none⟩) hbl).trans (H4.out j hjl)
      have hlen := onceP_len l j (by omega)
      have hsl := HSS.out _ (List.getElem_mem hjl)
      have HTK := Lib.hid (onceP_take l j hjl)
      obtain ⟨M, hM⟩ : ∃ M, M = onceP (l.take j) := ⟨_, rfl⟩
      obtain ⟨x, hx⟩ : ∃ x, x = l[j] := ⟨_, rfl⟩
      rw [← hM] at hrow hmap hlen HTK ⊢
      rw [← hx] at y hsl HTK
      have hkey := Go.WideMaps.keyOf_string_mk (P := Try.prog) Try.underlying9 (s := Lx.mk x) (by show x.length ≤ maxLen; unfold maxLen; omega)
      have HROW := Lib.hid hrow
      have HMAP := Lib.hid hmap
      obtain ⟨q, hq⟩ : ∃ q, q = M.length := ⟨_, rfl⟩
      rw [← hq] at hlen
      unfold strV at y
      clear hM hx hrow hmap hb hbl
      by_cases hxm : x ∈ M
      · have HAS := Lib.hid (show Maps.has (setS M) (.string x) = true by rw [setS_has, decide_eq_true hxm])
        rw [if_pos hxm] at HTK
        have HR2 := Lib.hid (HROW.out.alloc (.cells #[] 95))
        have HM2 := Lib.hid (HMAP.out.alloc (.cells #[] 95))
        have HB2 := Lib.hid (HB.out.alloc HB.out.size (.cells #[] 95))
        have hsz2 : W.heap.size + 1 ≤ (wr.alloc (.cells #[] 95)).heap.size := by simp; omega
        clear hxm hq
        go_wp2_with (at_lookup; refine wpList_lookup_own_unit _ rfl _ _ 94 rfl 9 95 (Maps.string_keyed Try.underlying9) Try.underlying94 (zero_unit _) W.heap.size M.length _ rfl HMAP.out _ _ rfl hkey ?_; rw [show Maps.has (setS M) (.string (Lx.mk x).data.toList) = true from HAS.out])
        go_roundw
        case rel => exact ⟨j + 1, by omega, by simp, by rw [HTK.out]; exact HR2.out, by rw [HTK.out]; exact HM2.out, HB2.out, hsz2⟩
        case measure => simp [intOf]; omega
      · have HAS := Lib.hid (show Maps.has (setS M) (.string x) = false by rw [setS_has, decide_eq_false hxm])
        rw [if_neg hxm] at HTK
        have hml : M.length < maxLen := by rw [← hq]; unfold maxLen; omega
        have HBW := Lib.hid (HB.out.alloc HB.out.size (.cells #[] 95))
        have hq2 : q < 1099511627776 := by omega
        have HOWNB := Lib.hid (Gn.own_block HROW.out)
        have HOWNL := Lib.hid (Gn.own_lt HROW.out)
        rw [← hq] at HROW ⊢
        have HQ := Lib.hid hq
        clear hxm hq
        go_wp2_with (first
          | (at_lookup; refine wpList_lookup_own_unit _ rfl _ _ 94 rfl 9 95 (Maps.string_keyed Try.underlying9) Try.underlying94 (zero_unit _) W.heap.size M.length _ rfl HMAP.out _ _ rfl hkey ?_; rw [show Maps.has (setS M) (.string (Lx.mk x).data.toList) = false from HAS.out])
          | (at_mapUpdate; refine wpList_mapUpdate_in _ rfl _ _ _ 94 rfl 9 95 (Maps.string_keyed Try.underlying9) Try.underlying94 unitElem W.heap.size M.length (setS M) rfl (HMAP.out.alloc _) hml _ (.agg #[]) (.string x) rfl rfl hkey (.agg []) [] unitElem_mk ?_; intro w2 hown2 hturn2; have HM2' := Lib.hid hown2; have HT2 := Lib.hid hturn2.grown; have hs2 := hturn2.grown.size; simp at hs2; clear hown2 hturn2)
          | (at_builtin; refine wpList_append_lies _ rfl _ _ 34 rfl (W.heap.size + 1) 9 i0 _ 1 16 Try.underlying34 hi0 hz0 hz1 hz2 rfl (by decide) (.slice Au q cu) q (M.map strV) rfl (World.ownsRow.alloc (own_of_block1 (HROW.out.alloc _) (fun g hg => HT2.out.block g (by have := HOWNL.out g (by rw [← HQ.out]; exact hg); simp; omega) (fun e => by have := HOWNB.out g (by rw [← HQ.out]; exact hg); cases e; omega))) _) ⟨w2.heap.size, 0, none⟩ 1 1 [.string (Lx.mk x)] rfl rfl (Gn.row_new w2 [.string (Lx.mk x)] 9 w2.heap.size rfl) (by simp [Value.oneCell']) (by decide) (by unfold maxLen; omega) (by omega) (by simp; omega) _ rfl ?_; intro gq cap' w4 hown4 hgrow4 hat4 hlt4; have HO4 := Lib.hid hown4; have HG4 := Lib.hid hgrow4; have HT4 := Lib.hid hat4; clear hown4 hgrow4 hat4 hlt4))
        have hne : ∀ j, (Value.slice Au q cu).ownBlock = some j → W.heap.size + 1 ≤ j := fun j hj => HOWNB.out j (by rw [← HQ.out]; exact hj)
        have hm4 := (HM2'.out.alloc (.cells #[.string (Lx.mk x)] 9)).kept HG4.out (fun e => by have := hne _ e.symm; omega)
        have hb4 := ((HBW.out.grown HT2.out (by simp; omega) (fun j e => by cases e; exact Nat.le_refl _)).alloc (by omega) (.cells #[.string (Lx.mk x)] 9)).grown HG4.out (by simp; omega) (fun j e => by have := hne j e; omega)
        have hz4 := HG4.out.size
        simp at hz4
        have HM4 := Lib.hid hm4
        have HB4 := Lib.hid hb4
        have hs4 : W.heap.size + 1 ≤ w4.heap.size := by omega
        clear hm4 hb4 hz4 hne
        go_roundw
        case rel => exact ⟨j + 1, by omega, by simp, by rw [HTK.out, List.length_append, List.map_append, ← HQ.out]; exact HO4.out, by rw [HTK.out, List.length_append, setS_snoc]; exact HM4.out, HB4.out, hs4⟩
        case measure => simp [intOf]; omega
    · have hje : n = j := by omega
      subst hje
      have hjn2 : ¬ ((n : Nat) : Int) < ((n : Nat) : Int) := by omega
      have HT := Lib.hid (show l.take n = l by rw [HN.out, List.take_length])
      have HR := Lib.hid (own_mono1 hrow (Nat.le_succ _))
      clear hrow hmap hb
      go_wp2_with fail
      go_ret
      refine ⟨_, rfl, ?_, HB.out⟩
      show wr.ownsRow _ _ _ (Value.slice Au (onceP (l.take n)).length cu) _ _
      rw [HT.out]
      have := HR.out
      rw [HT.out] at this
      exact this
end Go.Proofs.Ytakihbjfkpebcaa.Sx
