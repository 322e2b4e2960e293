/-
  An item that comes in: its six cells, and what its lists read as.
-/
import Derived.Test.YtjemofhppljcbaaOctLists
import Derived.ProofKit
import Derived.SliceStrings
import Derived.Deep.Fields
namespace Go.Proofs.Ytjemofhppljcbaa.Oct
open Go.ChangeShapes Go.WideShapes Go.RowKit Go.Deep

section
variable {H : Type} {enc : TypeId × Value → H} {w : World} {base : Nat} {spare : Nat → Bool} {held : Bool}

theorem addr_at {x : Addr} {v : Value} (h : w.cell? (x.add 0) = some v) : ∃ b off, x = ⟨b, off, none⟩ ∧ b < w.heap.size := by
  obtain ⟨b, off, spot⟩ := x
  have hspot : spot = none := by simpa [Addr.add] using World.cell?_spot h
  subst hspot
  exact ⟨b, off, rfl, by simpa [Addr.add] using World.block_lt_of_cell? w _ h⟩
theorem addr_add (b off i : Nat) : (⟨b, off, none⟩ : Addr).add i = ⟨b, off + i, none⟩ := by unfold Addr.add; split <;> simp_all

theorem nums_of {fuel : Nat} {v : Value} {y : DataW H × List MemPlace} (h : DataW.trod enc Try.prog w base spare held fuel 36 [v] = some y) :
    ∃ a len cap zs, v = .slice a len cap ∧ Nums w a len zs ∧ len ≤ 9223372036854775807 := by
  rcases open_ints Try.underlying36 Try.underlying3 (by kernel_rfl) h with ⟨hcs, _⟩ | ⟨x, l, c, zs, hcs, _, hl, hm, hz, _, hcell, _⟩
  · injection hcs with hcs
    exact ⟨none, 0, 0, [], hcs, ⟨rfl, fun h => absurd h (by omega)⟩, by omega⟩
  · injection hcs with hcs
    have hzl : l ≤ zs.length := by rw [hz]; split <;> omega
    unfold maxLen at hm
    refine ⟨some x, l, c, zs.take l, hcs, ⟨by rw [List.length_take]; omega, fun h0 => ?_⟩, by omega⟩
    obtain ⟨b, off, rfl, hb⟩ := addr_at (hcell 0 (by omega))
    refine ⟨b, off, rfl, hb, fun i hi => ?_⟩
    rw [← addr_add, hcell i (by omega)]
    simp [List.getD, List.getElem?_take_of_lt hi]

theorem strs_of {fuel : Nat} {v : Value} {y : DataW H × List MemPlace} (h : DataW.trod enc Try.prog w base spare held fuel 37 [v] = some y) :
    ∃ a len cap ss, v = .slice a len cap ∧ Strs w a len ss ∧ len ≤ 9223372036854775807 ∧ ∀ s ∈ ss, s.size ≤ maxLen := by
  rcases open_strings Try.underlying37 Try.underlying9 (by kernel_rfl) h with ⟨hcs, _⟩ | ⟨x, l, c, ss, hcs, _, hl, hm, hz, _, hcell, hsz⟩
  · injection hcs with hcs
    exact ⟨none, 0, 0, [], hcs, ⟨rfl, fun h => absurd h (by omega)⟩, by omega, fun s hs => by cases hs⟩
  · injection hcs with hcs
    have hzl : l ≤ ss.length := by rw [hz]; split <;> omega
    unfold maxLen at hm
    refine ⟨some x, l, c, ss.take l, hcs, ⟨by rw [List.length_take]; omega, fun h0 => ?_⟩, by omega, fun s hs => hsz s (List.mem_of_mem_take hs)⟩
    obtain ⟨b, off, rfl, hb⟩ := addr_at (hcell 0 (by omega))
    refine ⟨b, off, rfl, hb, fun i hi => ?_⟩
    rw [← addr_add, hcell i (by omega)]
    simp [List.getD, List.getElem?_take_of_lt hi]

/-- The six cells of an item. -/
theorem item_cells {fuel : Nat} {c0 c1 c2 c3 c4 c5 : Value} {y : DataW H × List MemPlace} (h : DataW.trod enc Try.prog w base spare held fuel 39 [c0, c1, c2, c3, c4, c5] = some y) :
    ∃ (k n : Int) (b : Bool) (t : ByteArray) (ia sa : Option Addr) (il ic sl sc : Nat) (zs : List Int) (ss : List ByteArray),
      c0 = .int .i64 k ∧ c1 = .int .i64 n ∧ c2 = .bool b ∧ c3 = .string t ∧ c4 = .slice ia il ic ∧ c5 = .slice sa sl sc ∧ Nums w ia il zs ∧ Strs w sa sl ss := by
  obtain ⟨xs, m, _, _, _, hlen, hf⟩ := DataW.trod_struct Try.underlying39 h
  match xs, hlen with
  | [y0, y1, y2, y3, y4, y5], _ =>
    have f0 := hf 0 _ rfl
    have f1 := hf 1 _ rfl
    have f2 := hf 2 _ rfl
    have f3 := hf 3 _ rfl
    have f4 := hf 4 _ rfl
    have f5 := hf 5 _ rfl
    simp only [List.getElem?_cons_zero, List.getElem?_cons_succ] at f0 f1 f2 f3 f4 f5
    obtain ⟨k, h0, _, _⟩ := DataW.trod_int Try.underlying3 f0
    obtain ⟨n, h1, _, _⟩ := DataW.trod_int Try.underlying3 f1
    obtain ⟨b, h2, _⟩ := DataW.trod_bool Try.underlying4 f2
    obtain ⟨t, h3, _, _⟩ := DataW.trod_string Try.underlying9 f3
    obtain ⟨ia, il, ic, zs, h4, h5, _⟩ := nums_of f4
    obtain ⟨sa, sl, sc, ss, h6, h7, _⟩ := strs_of f5
    injection h0 with h0
    injection h1 with h1
    injection h2 with h2
    injection h3 with h3
    exact ⟨k, n, b, t, ia, sa, il, ic, sl, sc, zs, ss, h0, h1, h2, h3, h4, h6, h5, h7⟩

theorem item_value {r : Reach} {b0 : Nat} {v : Value} {d : DataW H} {p : List MemPlace} (hv : Value.okWide Try.prog w r b0 39 v) (h : DataW.Trod enc Try.prog w base spare held 39 v d p) :
    ∃ (k n : Int) (b : Bool) (t : ByteArray) (ia sa : Option Addr) (il ic sl sc : Nat) (zs : List Int) (ss : List ByteArray),
      v = .agg #[.int .i64 k, .int .i64 n, .bool b, .string t, .slice ia il ic, .slice sa sl sc] ∧ Nums w ia il zs ∧ Strs w sa sl ss := by
  obtain ⟨cs, rfl, hsz⟩ := okWide_struct Try.underlying39 hv
  have e6 : Try.prog.cellsOf 39 = 6 := by kernel_rfl
  rw [e6] at hsz
  obtain ⟨l⟩ := cs
  obtain ⟨fuel, hf⟩ := h
  match l, hsz with
  | [c0, c1, c2, c3, c4, c5], _ =>
    obtain ⟨k, n, b, t, ia, sa, il, ic, sl, sc, zs, ss, rfl, rfl, rfl, rfl, rfl, rfl, h5, h7⟩ := item_cells (by simpa [Value.cells] using hf)
    exact ⟨k, n, b, t, ia, sa, il, ic, sl, sc, zs, ss, rfl, h5, h7⟩
end

end Go.Proofs.Ytjemofhppljcbaa.Oct
