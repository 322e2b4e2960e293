/-
  How the law's argument reads: numbers and rows of numbers.
-/
import Derived.Test.YtlkijnglpllcdaaFxPr
import Derived.Deep.Matrix
import Derived.ChangeOld
import Derived.ProofKit
import Derived.OpenShut
import Derived.ShutString
namespace Go.Proofs.Ytlkijnglpllcdaa.Fx
open Go.RowKit
open Go.ChangeShapes Go.WideShapes
set_option maxRecDepth 100000
section
variable {H : Type} {enc : TypeId × Value → H} {w : World} {base : Nat} {held : Bool}
theorem addr_at {x : Addr} {v : Value} (h : w.cell? (x.add 0) = some v) : ∃ b off, x = ⟨b, off, none⟩ ∧ b < w.heap.size := by
  obtain ⟨b, off, spot⟩ := x
  have hspot : spot = none := by simpa [Addr.add] using World.cell?_spot h
  subst hspot
  exact ⟨b, off, rfl, by simpa [Addr.add] using World.block_lt_of_cell? w _ h⟩
theorem addr_add (b off i : Nat) : (⟨b, off, none⟩ : Addr).add i = ⟨b, off + i, none⟩ := by unfold Addr.add; split <;> simp_all
theorem NumsIn.of {A : Option Addr} {L C : Nat} {Z : List Int} (hL : L ≤ C) (hZ : Z.length = C) (hn : A = none → C = 0) (hc : ∀ a', A = some a' → ∀ c, c < C → w.cell? (a'.add c) = some (.int .i64 (Z.getD c 0))) : NumsIn w (Z.take L) (.slice A L C) := by
  have hl : (Z.take L).length = L := by rw [List.length_take]; omega
  cases A with
  | none =>
    have := hn rfl
    exact ⟨none, C, 0, 0, by rw [hl], fun h => absurd h (by rw [hl]; omega), fun i hi => absurd hi (by rw [hl]; omega)⟩
  | some a =>
    rcases Nat.eq_zero_or_pos L with h0 | h0
    · exact ⟨some a, C, 0, 0, by rw [hl], fun h => absurd h (by rw [hl]; omega), fun i hi => absurd hi (by rw [hl]; omega)⟩
    · obtain ⟨b, off, rfl, hb⟩ := addr_at (hc a rfl 0 (by omega))
      refine ⟨some ⟨b, off, none⟩, C, b, off, by rw [hl], fun _ => ⟨rfl, hb⟩, fun i hi => ?_⟩
      have hi2 : i < L := by rw [← hl]; exact hi
      rw [← addr_add, hc _ rfl i (by omega)]
      simp [List.getD, List.getElem?_eq_getElem (show i < Z.length by omega)]
theorem nums_in {fuel : Nat} {v : Value} {y : DataW H × List MemPlace} (h : DataW.trod enc Try.prog w base (fun _ => true) held fuel 22 [v] = some y) : ∃ l, NumsIn w l v ∧ l.length ≤ maxLen := by
  rcases open_ints Try.underlying22 Try.underlying3 (by kernel_rfl) h with ⟨hcs, _⟩ | ⟨x, l, c, zs, hcs, _, hl, hm, hz, _, hcell, _⟩
  · injection hcs with hcs
    subst hcs
    exact ⟨[], ⟨none, 0, 0, 0, rfl, fun h => absurd h (by simp), fun i hi => absurd hi (by simp)⟩, by simp⟩
  · injection hcs with hcs
    subst hcs
    simp only [if_true] at hz
    exact ⟨zs.take l, NumsIn.of hl hz (fun h => by cases h) (fun a' h i hi => by injection h with h; subst h; exact hcell i (by omega)), by rw [List.length_take]; omega⟩
theorem rows_in {fuel : Nat} {v : Value} {y : DataW H × List MemPlace} (h : DataW.trod enc Try.prog w base (fun _ => true) held fuel 23 [v] = some y) : ∃ ls, RowsIn w ls v ∧ ls.length ≤ maxLen ∧ ∀ r ∈ ls, r.length ≤ maxLen := by
  rcases Go.Deep.open_int_rows Try.underlying23 Try.underlying22 Try.underlying3 (by kernel_rfl) (by kernel_rfl) h with ⟨hcs, _⟩ | ⟨x, l, c, A, L, C, Z, hcs, _, hl, hm, _, hrow⟩
  · injection hcs with hcs
    subst hcs
    exact ⟨[], ⟨none, 0, 0, 0, fun _ => .bool false, rfl, fun h => absurd h (by simp), fun i hi => absurd hi (by simp)⟩, by simp, by simp⟩
  · injection hcs with hcs
    subst hcs
    have hlen : ((List.range l).map fun r => (Z r).take (L r)).length = l := by simp
    refine ⟨(List.range l).map fun r => (Z r).take (L r), ?_, by rw [hlen]; omega, fun r hr => ?_⟩
    · rcases Nat.eq_zero_or_pos l with h0 | h0
      · exact ⟨some x, c, 0, 0, fun _ => .bool false, by rw [hlen], fun h => absurd h (by rw [hlen]; omega), fun i hi => absurd hi (by rw [hlen]; omega)⟩
      · obtain ⟨b, off, rfl, hb⟩ := addr_at (hrow 0 (by omega)).1
        refine ⟨some ⟨b, off, none⟩, c, b, off, fun r => .slice (A r) (L r) (C r), by rw [hlen], fun _ => ⟨rfl, hb⟩, fun i hi => ?_⟩
        have hi2 : i < l := by rw [← hlen]; exact hi
        obtain ⟨h1, h2, h3, h4, _, h6, h7⟩ := hrow i (by omega)
        rw [addr_add] at h1
        refine ⟨h1, ?_⟩
        have e : ((List.range l).map fun r => (Z r).take (L r))[i] = (Z i).take (L i) := by simp
        rw [e]
        exact NumsIn.of h2 h4 h6 (fun a' ha i hi => (h7 a' ha).2 i hi)
    · obtain ⟨i, hi, rfl⟩ := List.mem_map.1 hr
      obtain ⟨h1, h2, h3, h4, _⟩ := hrow i (by have := List.mem_range.1 hi; omega)
      rw [List.length_take]; omega
theorem raw_in {fuel : Nat} {c0 c1 c2 c3 c4 : Value} {y : DataW H × List MemPlace} (h : DataW.trod enc Try.prog w base (fun _ => true) held fuel 25 [c0, c1, c2, c3, c4] = some y) :
    ∃ (N T St : Int) (l : List Int) (ls : List (List Int)), c0 = .int .i64 N ∧ c1 = .int .i64 T ∧ c2 = .int .i64 St ∧ NumsIn w l c3 ∧ RowsIn w ls c4 ∧ l.length ≤ maxLen ∧ ls.length ≤ maxLen ∧ ∀ r ∈ ls, r.length ≤ maxLen := by
  obtain ⟨xs, m, _, _, _, hlen, hf⟩ := DataW.trod_struct Try.underlying25 h
  match xs, hlen with
  | [y0, y1, y2, y3, y4], _ =>
    have f0 := hf 0 _ rfl
    have f1 := hf 1 _ rfl
    have f2 := hf 2 _ rfl
    have f3 := hf 3 _ rfl
    have f4 := hf 4 _ rfl
    simp only [List.getElem?_cons_zero, List.getElem?_cons_succ] at f0 f1 f2 f3 f4
    obtain ⟨k, h0, _, _⟩ := DataW.trod_int Try.underlying3 f0
    obtain ⟨n, h1, _, _⟩ := DataW.trod_int Try.underlying3 f1
    obtain ⟨s, h2, _, _⟩ := DataW.trod_int Try.underlying3 f2
    obtain ⟨l, h3, h3l⟩ := nums_in f3
    obtain ⟨ls, h4, h4l, h4r⟩ := rows_in f4
    injection h0 with h0
    injection h1 with h1
    injection h2 with h2
    exact ⟨k, n, s, l, ls, h0, h1, h2, h3, h4, h3l, h4l, h4r⟩
end
theorem arr5 : ∀ cs : Array Value, cs.size = 5 → ∃ c0 c1 c2 c3 c4, cs = #[c0, c1, c2, c3, c4]
  | ⟨[c0, c1, c2, c3, c4]⟩, _ => ⟨c0, c1, c2, c3, c4, rfl⟩
theorem raw_cells : Try.prog.cellsOf 25 = 5 := by kernel_rfl
theorem raw_arg {W : World} {base : Nat} {v : Value} (h : Value.okWide Try.prog W .any base 25 v) : ∃ c0 c1 c2 c3 c4, v = .agg #[c0, c1, c2, c3, c4] := by
  obtain ⟨cs, rfl, hcs⟩ := okWide_struct Try.underlying25 h
  rw [raw_cells] at hcs
  obtain ⟨c0, c1, c2, c3, c4, rfl⟩ := arr5 cs hcs
  exact ⟨c0, c1, c2, c3, c4, rfl⟩
end Go.Proofs.Ytlkijnglpllcdaa.Fx
