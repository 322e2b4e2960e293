/-
  The walk of numbers: the place of each text, of several alike that of the first one.
-/
import Derived.Test.YtdknlifpoihnmaaFxRow
import Derived.RangeFuncWrites
import Derived.RangeFuncNested
import Derived.RangeFuncBound
import Derived.RangeFuncCalls
import Derived.RangeFuncLeaves
import Derived.Shelf.Abstract
import Derived.Shelf.RegionOpen
import Derived.WalkKit
import Derived.OwnWalkIn
import Derived.TacticsInMore
import Derived.LoopNIn
import Derived.LoopIn
import Derived.Maps.OwnIn
import Derived.Maps.Views
import Derived.Maps.OwnSet
namespace Go.Proofs.Ytdknlifpoihnmaa.Fx
open Go.RowKit Go.Shelf
attribute [local go_sem] Oper.semAt_some

/-- A place and a text, each within its range. -/
abbrev Nm := { x : Int × ByteArray // (Lit.int .i64 x.1).wf = true ∧ x.2.size ≤ maxLen }
/-- What has come when k rounds are over. -/
def upto {α : Type} (f : Nat → α) (k : Nat) : List α := (List.range k).map f
theorem upto_succ {α : Type} (f : Nat → α) (k : Nat) : upto f (k + 1) = upto f k ++ [f k] := by simp [upto, List.range_succ]
theorem upto_length {α : Type} (f : Nat → α) (k : Nat) : (upto f k).length = k := by simp [upto]

/-- What a round keeps: all below n₀, and the slice's box. -/
def Kq (n₀ Bs : Nat) (W W' : World) : Prop := ∀ k, (k < n₀ ∨ k = Bs) → W'.heap[k]? = W.heap[k]?
theorem Kq.refl (n₀ Bs : Nat) (W : World) : Kq n₀ Bs W W := fun _ _ => rfl
theorem Kq.trans {n₀ Bs : Nat} {A B C : World} (h : Kq n₀ Bs A B) (k : Kq n₀ Bs B C) : Kq n₀ Bs A C := fun q hq => (k q hq).trans (h q hq)
theorem Kq.cell {n₀ Bs : Nat} {A B : World} (h : Kq n₀ Bs A B) {b : Nat} (hb : b < n₀ ∨ b = Bs) (j : Nat) : B.cell? ⟨b, j, none⟩ = A.cell? ⟨b, j, none⟩ := Gn.cell_same (h b hb) j

set_option maxRecDepth 100000 in
set_option maxHeartbeats 2000000 in
/-- slices.Backward's closure over texts: for every loop body that keeps what lay below n₀. -/
theorem back1_in (F : Fence) (n : Nat) (h7 : F.fn 100) (hro : F.round = none) (hn : 1 ≤ n) (l Bs n₀ b len cap : Nat) (A : Option Addr) (f : Nat → Nm) (hlen : len ≤ 1099511627776) (hA : 0 < len → A = some ⟨b, 0, none⟩ ∧ b < n₀) (J Jx : List Nm → World → Prop)
    (hY : ∀ pre x W, J pre W → pre.length < len → YieldAt F (n - 1) Try.prog l #[.int .i64 x.1.1, .string x.1.2] W fun e W' =>
      (e = .returned (.bool true) ∧ J (pre ++ [x]) W' ∧ Kq n₀ Bs W W') ∨ (e = .returned (.bool false) ∧ Jx (pre ++ [x]) W'))
    (W : World) (hBs : W.cell? ⟨Bs, 0, none⟩ = some (.slice A len cap)) (hc : ∀ j, j < len → W.cell? ⟨b, len - 1 - j, none⟩ = some (.string (f j).1.2)) (hf : ∀ j, j < len → (f j).1.1 = ((len - 1 - j : Nat) : Int)) (h0 : J [] W) :
    CallsIn F n Try.prog 100 #[.func (.yield l) #[] #[], .pointer (some ⟨Bs, 0, none⟩)] W fun e W' => (∃ v, e = .returned v) ∧
      ((∃ ys, ys = upto f len ∧ J ys W') ∨ (∃ pre, (∃ k, k ≤ len ∧ pre = upto f k) ∧ Jx pre W')) := by
  refine callsIn_of_wp Try.func100 rfl h7 ?_ hro
  simp only [Try.ntmps100, List.size_toArray, List.length_cons, List.length_nil, Nat.reduceAdd, Nat.reduceSub, Array.replicate_succ, Array.replicate_zero, List.push_toArray, List.append_toArray, List.nil_append, List.cons_append]
  gi_wp2
  gi_loopw [3] (fun i wr => ∃ k : Nat, k ≤ len ∧ i = .int .i64 ((len : Int) - 1 - k) ∧ J (upto f k) wr ∧ Kq n₀ Bs W wr)
    (fun i _ => (intOf i + 1).toNat)
  case atStart => exact ⟨0, Nat.zero_le _, by simp, h0, Kq.refl _ _ _⟩
  case round =>
    obtain ⟨k, hk, rfl, hJs, hnx⟩ := hrel
    have hbx : wr.cell? ⟨Bs, 0, none⟩ = some (.slice A len cap) := (hnx.cell (.inr rfl) 0).trans hBs
    by_cases hlt : k < len
    · obtain ⟨rfl, hb⟩ := hA (by omega)
      have hcx : wr.cell? ⟨b, len - 1 - k, none⟩ = some (.string (f k).1.2) := (hnx.cell (.inl hb) _).trans (hc k hlt)
      obtain ⟨fn, tmps, assign, body, hy, hR⟩ := hY _ (f k) wr hJs (by rw [upto_length]; exact hlt)
      have hfk := hf k hlt
      have e1 : (len : Int) - 1 - k = ((len - 1 - k : Nat) : Int) := by omega
      obtain ⟨q, hq⟩ : ∃ q, q = len - 1 - k := ⟨_, rfl⟩
      obtain ⟨tx, htx⟩ : ∃ tx, tx = (f k).1.2 := ⟨_, rfl⟩
      rw [hfk, ← hq, ← htx] at hy
      rw [← hq, ← htx] at hcx
      rw [e1, ← hq]
      have hq0 : (0 : Int) ≤ (q : Int) := by omega
      have hq1 : (q : Int) < (len : Int) := by omega
      have HQ := Lib.hid hq
      clear hfk htx e1 hq
      gi_wp2
      refine hR.mono ?_
      rintro e W3 (⟨rfl, hJ3, hk3⟩ | ⟨rfl, hJx3⟩)
      · gi_wp2
        go_roundw
        case rel =>
          have h9 := HQ.out
          refine ⟨k + 1, ?_, ?_, ?_, hnx.trans hk3⟩
          · omega
          · congr 1
            omega
          · rw [upto_succ]; exact hJ3
        case measure => simp [intOf]
      · gi_wp2
        refine bodyPost_ret (results_none rfl _ _ _) rfl ?_
        exact ⟨⟨_, rfl⟩, .inr ⟨_, ⟨k + 1, by omega, (upto_succ _ _).symm⟩, hJx3⟩⟩
    · obtain rfl : k = len := by omega
      have hneg : ¬ (0 : Int) ≤ (k : Int) - 1 - k := by omega
      gi_wp2
      go_end0
      exact ⟨⟨_, rfl⟩, .inl hJs⟩

set_option maxHeartbeats 1000000 in
theorem back_in (F : Fence) (n : Nat) (h5 : F.fn 91) (hro : F.round = none) (a : Option Addr) (len cap : Nat) (w : World) :
    CallsIn F n Try.prog 91 #[.slice a len cap] w fun e w' => e = .returned (.func (.func 100) #[] #[.pointer (some ⟨w.heap.size, 0, none⟩)]) ∧ w' = w.alloc (.cells #[.slice a len cap] 28) := by
  refine callsIn_of_wp Try.func91 rfl h5 ?_ hro
  simp only [Try.ntmps91, List.size_toArray, List.length_cons, List.length_nil, Nat.reduceAdd, Nat.reduceSub, Array.replicate_succ, Array.replicate_zero, List.push_toArray, List.append_toArray, List.nil_append, List.cons_append]
  gi_wp2
  go_ret
  exact ⟨rfl, rfl⟩
theorem back_stops (F : Fence) (n : Nat) (h7 : F.fn 100) (hro : F.round = none) (hn : 1 ≤ n) (Bs n₀ b len cap : Nat) (A : Option Addr) (f : Nat → Nm) (hlen : len ≤ 1099511627776) (hA : 0 < len → A = some ⟨b, 0, none⟩ ∧ b < n₀) (w : World) (hBs : Bs < w.heap.size) (hn₀ : n₀ ≤ w.heap.size)
    (hb : w.cell? ⟨Bs, 0, none⟩ = some (.slice A len cap)) (hc : ∀ j, j < len → w.cell? ⟨b, len - 1 - j, none⟩ = some (.string (f j).1.2)) (hf : ∀ j, j < len → (f j).1.1 = ((len - 1 - j : Nat) : Int)) :
    SeqStopsK F n Try.prog 100 #[.pointer (some ⟨Bs, 0, none⟩)] (fun x : Nm => #[Value.int .i64 x.1.1, Value.string x.1.2]) (Kq n₀ Bs) (fun ys => ys = upto f len) (fun pre => ∃ k, k ≤ len ∧ pre = upto f k) len w := fun l J Jx W hW _ _ hY h0 =>
  back1_in F n h7 hro hn l Bs n₀ b len cap A f hlen hA J Jx hY W ((hW.cell (p := ⟨Bs, 0, none⟩) (show Bs < w.heap.size by omega)).trans hb) (fun j hj => (hW.cell (p := ⟨b, len - 1 - j, none⟩) (show b < w.heap.size by have := (hA (by omega)).2; omega)).trans (hc j hj)) hf h0
end Go.Proofs.Ytdknlifpoihnmaa.Fx
