/-
  The listed variables' cells out of the rows' condition; a world that meets it; the sentence that each statement of layer 2 opens with.
-/
import Derived.Test.YtfeajbaaoflfeaaDoorMkMean
import Derived.Lib.LaidTab
import Derived.LaidMore
import Derived.Lay
import Derived.Stop.LaidErr
import Derived.ProofKit
import Derived.OpenShut
import Derived.ShutString
import Derived.ChangeOld
import Derived.Stop.Joined
namespace Go.Proofs.YtfeajbaaoflfeaaDoor.Mk
open Go.RowKit

/-- What the rows list. -/
def laidL : List (String × DataW Unit) := [("math/bits.deBruijn32tab", Rows.laid_math_bits_deBruijn32tab), ("math/bits.deBruijn64tab", Rows.laid_math_bits_deBruijn64tab), ("internal/strconv.optimize", Rows.laid_internal_strconv_optimize), ("internal/strconv.uint64pow10", Rows.laid_internal_strconv_uint64pow10), ("internal/strconv.leftcheats", Rows.laid_internal_strconv_leftcheats), ("internal/strconv.pow10Tab", Rows.laid_internal_strconv_pow10Tab)]
theorem own : ownKnob Tryd.prog.godebug = none := by kernel_rfl

/-- A world that meets the condition. -/
theorem start_shaped (os : Os) (args : Array Value) : ((World.laidAll Tryd.prog os laidL).forCall (fun _ _ => 0) ⟨#[], args, []⟩).Shaped Tryd.prog := World.shaped_of_ZipB (by kernel_rfl) (by kernel_rfl)
theorem start_met (os : Os) (args : Array Value) : laidMetH Tryd.prog laidL ((World.laidAll Tryd.prog os laidL).forCall (fun _ _ => 0) ⟨#[], args, []⟩).memory := by
  rw [MakeChecks.laidMetH_plain _ _ _ (by kernel_rfl)]
  exact laidMet_laidAll _ (by kernel_rfl) (by kernel_rfl)

theorem gPow : Tryd.prog.globalNamed "internal/strconv.pow10Tab" = some 3 := by kernel_rfl
theorem gSmall : Tryd.prog.globalNamed "internal/strconv.uint64pow10" = some 2 := by kernel_rfl
theorem tPow : (Tryd.prog.globals[3]?).map (·.type) = some 111 := by kernel_rfl
theorem tSmall : (Tryd.prog.globals[2]?).map (·.type) = some 101 := by kernel_rfl
theorem row363 : Pinned.pow10Rows[363]? = some (16384000000000000000, 0) := by decide +kernel
theorem cPair : Tryd.prog.cellsOf 110 = 2 := by kernel_rfl
theorem cWord : Tryd.prog.cellsOf 22 = 1 := by kernel_rfl
theorem fields : ∃ fs : Array Field, Tryd.prog.underlying 110 = some (.struct fs) ∧ (fs[0]?).map (fun f => (f.type, f.offset)) = some (22, 0) ∧ (fs[1]?).map (fun f => (f.type, f.offset)) = some (22, 1) :=
  ⟨_, Tryd.underlying110, by kernel_rfl, by kernel_rfl⟩

theorem agg_inj {H : Type} {a b : List (DataW H)} {x : DataW H} {q r : List MemPlace} (hx : x = .agg a) (h : (x, q) = (.agg b, r)) : b = a := by
  subst hx
  have h1 := (Prod.mk.inj h).1
  injection h1 with h1
  exact h1.symm
theorem tab_agg : Rows.laid_internal_strconv_pow10Tab = .agg (Pinned.pow10Rows.map fun x => .agg [.lit (.int .u64 x.1), .lit (.int .u64 x.2)]) := by
  unfold Rows.laid_internal_strconv_pow10Tab
  delta Pinned.pow10Tab
  rfl
theorem row_at : (Pinned.pow10Rows.map fun x => (.agg [.lit (.int .u64 x.1), .lit (.int .u64 x.2)] : DataW Unit))[363]? = some (.agg [.lit (.int .u64 16384000000000000000), .lit (.int .u64 0)]) := by
  rw [List.getElem?_map, row363]
  rfl
theorem lt_all : 363 < 696 := by decide
theorem two_of {α : Type} : ∀ (l : List α), l.length = 2 → ∃ a b, l = [a, b]
  | [a, b], _ => ⟨a, b, rfl⟩
set_option maxRecDepth 100000 in
theorem pow_cells {W : World} (h : laidMet Tryd.prog [("internal/strconv.pow10Tab", Rows.laid_internal_strconv_pow10Tab)] W) :
    W.cell? ⟨3, 726, none⟩ = some (.int .u64 16384000000000000000) ∧ W.cell? ⟨3, 727, none⟩ = some (.int .u64 0) := by
  obtain ⟨ps, ⟨g', t', cs, fuel, p, q, hg', ht', hvar, hd, _, _⟩, _⟩ := h
  have eg := Option.some.inj (gPow.symm.trans hg')
  subst eg
  have et := Option.some.inj (tPow.symm.trans ht')
  subst et
  obtain ⟨xs, m, rfl, hx, hl, hn, hel⟩ := DataW.trod_array Tryd.underlying111 hd
  have h363 := hel 363 lt_all
  rw [cPair] at h363
  have hfst : xs.map (·.1) = Pinned.pow10Rows.map fun x => .agg [.lit (.int .u64 x.1), .lit (.int .u64 x.2)] := agg_inj tab_agg hx
  obtain ⟨y, hy, hy1⟩ : ∃ y, xs[363]? = some y ∧ y.1 = .agg [.lit (.int .u64 16384000000000000000), .lit (.int .u64 0)] := by
    have h4 : (xs.map (·.1))[363]? = some (.agg [.lit (.int .u64 16384000000000000000), .lit (.int .u64 0)]) := by
      rw [hfst]; exact row_at
    rw [List.getElem?_map] at h4
    exact Option.map_eq_some_iff.1 h4
  rw [hy] at h363
  obtain ⟨fs, hfs, field0, field1⟩ := fields
  obtain ⟨zs, m', _, hz, _, hlen, hf⟩ := DataW.trod_struct hfs h363
  have hz1 : zs.map (·.1) = [.lit (.int .u64 16384000000000000000), .lit (.int .u64 0)] := by
    rw [hz] at hy1
    injection hy1
  have hlen2 : zs.length = 2 := by
    have := congrArg List.length hz1
    simpa using this
  obtain ⟨z0, z1, rfl⟩ : ∃ z0 z1, zs = [z0, z1] := two_of zs hlen2
  simp only [List.map_cons, List.map_nil, List.cons.injEq, and_true] at hz1
  obtain ⟨f0, hf0, e0⟩ := Option.map_eq_some_iff.1 field0
  obtain ⟨f1, hf1, e1⟩ := Option.map_eq_some_iff.1 field1
  have c0 := hf 0 f0 hf0
  have c1 := hf 1 f1 hf1
  rw [(Prod.mk.inj e0).1, (Prod.mk.inj e0).2, cWord] at c0
  rw [(Prod.mk.inj e1).1, (Prod.mk.inj e1).2, cWord] at c1
  obtain ⟨k0, a0, b0, _⟩ := DataW.trod_int Tryd.underlying22 (show _ = some z0 from c0)
  obtain ⟨k1, a1, b1, _⟩ := DataW.trod_int Tryd.underlying22 (show _ = some z1 from c1)
  have hk0 : k0 = 16384000000000000000 := by rw [b0] at hz1; simpa using hz1.1
  have hk1 : k1 = 0 := by rw [b1] at hz1; simpa using hz1.2
  subst hk0 hk1
  have d0 : cs[726]? = some (.int .u64 16384000000000000000) := by
    have := congrArg (·[0]?) a0
    simpa [List.getElem?_take, List.getElem?_drop] using this
  have d1 : cs[727]? = some (.int .u64 0) := by
    have := congrArg (·[0]?) a1
    simpa [List.getElem?_take, List.getElem?_drop] using this
  exact ⟨(World.var?_cell gPow hvar 726).trans d0, (World.var?_cell gPow hvar 727).trans d1⟩

def smallTab : List Int := [1, 10, 100, 1000, 10000, 100000, 1000000, 10000000, 100000000, 1000000000, 10000000000, 100000000000, 1000000000000, 10000000000000, 100000000000000, 1000000000000000, 10000000000000000, 100000000000000000, 1000000000000000000, 10000000000000000000]
theorem small_cell {W : World} {r : List (String × DataW Unit)} (h : laidMet Tryd.prog (("internal/strconv.uint64pow10", Rows.laid_internal_strconv_uint64pow10) :: r) W) : W.cell? ⟨2, 16, none⟩ = some (.int .u64 10000000000000000) := by
  have ht : Lib.TabIs Tryd.prog W "internal/strconv.uint64pow10" .u64 smallTab := Lib.tabIs_of_head gSmall tSmall Tryd.underlying101 Tryd.underlying22 (by kernel_rfl) (by kernel_rfl) h
  exact ht.cell gSmall 16 (by decide)

theorem lt_of_cell {W : World} {g k : Nat} {v : Value} (h : W.cell? ⟨g, k, none⟩ = some v) : g < W.heap.size := by
  rcases Nat.lt_or_ge g W.heap.size with h1 | h1
  · exact h1
  · exfalso
    have hn : W.heap[g]? = none := Array.getElem?_eq_none h1
    simp [World.cell?, hn] at h

theorem of_laid {W : World} (h : laidMetH Tryd.prog laidL W) : Tab W ∧ Low W := by
  rw [MakeChecks.laidMetH_plain _ _ _ (by kernel_rfl)] at h
  have h3 := laidMet.tail (laidMet.tail (laidMet.tail h))
  have c := small_cell h3
  obtain ⟨a, b⟩ := pow_cells (laidMet.tail (laidMet.tail h3))
  exact ⟨⟨a, b, c⟩, lt_of_cell a, lt_of_cell c⟩

end Go.Proofs.YtfeajbaaoflfeaaDoor.Mk
