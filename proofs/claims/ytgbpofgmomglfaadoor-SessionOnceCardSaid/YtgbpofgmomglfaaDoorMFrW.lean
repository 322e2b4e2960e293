/-
  What was wrapped is opened again; the sentence that each statement of layer 3 opens with; the listed variable's cells out of the rows' condition.
-/
import Derived.Test.YtgbpofgmomglfaaDoorMFrOpen2
import Derived.Lib.LaidTab
import Derived.LaidMore
import Derived.ProofKit
import Derived.OpenShut
import Derived.ShutString
import Derived.ChangeOld
import Derived.Stop.Joined
namespace Go.Proofs.YtgbpofgmomglfaaDoor.Crc
set_option maxRecDepth 100000
open Go.RowKit
open Oct (bs u8v gb)

theorem wr_len (b : List UInt8) (h : b.length ≤ 1048576) : (wr b).length = (Oct.pb b.length).length + b.length + 4 := by
  rw [wr, if_neg (by omega), List.length_append, List.length_append, le4_len]
theorem gb_wr (b rest : List UInt8) (h : b.length ≤ 1048576) : gb (wr b ++ rest) = ((b.length : Int), (Oct.pb b.length).length, 0) := by
  rw [wr, if_neg (by omega), List.append_assoc, List.append_assoc]
  exact Oct.gb_pb _ _ (by omega)
/-- What was wrapped is opened. -/
theorem op_wr (b : List UInt8) (h : b.length ≤ 1048576) : op (wr b) = (b, 0) := by
  have hg := gb_wr b [] h
  rw [List.append_nil] at hg
  have hl := wr_len b h
  unfold op
  rw [hg]
  simp only [Int.toNat_natCast]
  rw [if_neg (by simp), if_neg (by omega), if_neg (by omega), if_neg (by omega), if_neg (by omega)]
  have e : wr b = (Oct.pb b.length ++ b) ++ le4 (sum (Oct.pb b.length ++ b)) := by rw [wr, if_neg (by omega)]
  have hn : (Oct.pb b.length ++ b).length = (Oct.pb b.length).length + b.length := List.length_append
  rw [e, ← hn, List.drop_left, List.take_left, if_pos rfl, List.drop_left]
theorem wr_le (b : List UInt8) : (wr b).length ≤ b.length + 12 := by
  by_cases h : b.length ≤ 1048576
  · rw [wr_len b h]; have := pb_len8 (b.length : Int); omega
  · rw [wr, if_pos (by omega)]; simp

theorem bs_mk (l : List UInt8) : bs ⟨l.toArray⟩ = l := rfl
theorem size_mk (l : List UInt8) : (⟨l.toArray⟩ : ByteArray).size = l.length := rfl

/-- What the rows list. -/
def laidL : List (String × DataW Unit) := [("primer/frame.steps", Rows.laid_primer_frame_steps)]
theorem own : ownKnob Tryd.prog.godebug = none := by kernel_rfl
theorem gSteps : Tryd.prog.globalNamed "primer/frame.steps" = some 0 := by kernel_rfl
theorem tSteps : (Tryd.prog.globals[0]?).map (·.type) = some 143 := by kernel_rfl

/-- The door's own heap meets the condition. -/
theorem door_met (os : Os) (args : Array Value) : laidMetH Tryd.prog laidL ((World.doorLaid Tryd.prog 400 os).forCall (fun _ _ => 0) ⟨#[], args, []⟩).memory :=
  laidMetH_of_parts (laidMet_of_run' 8 (by kernel_rfl) (by kernel_rfl)) (by kernel_rfl)

theorem of_laid {W : World} (h : laidMetH Tryd.prog laidL W) : Steps W ∧ 0 < W.heap.size := by
  rw [MakeChecks.laidMetH_plain _ _ _ (by kernel_rfl)] at h
  have ht : Lib.TabIs Tryd.prog W "primer/frame.steps" .u32 (table.map Int.ofNat) := Lib.tabIs_of_head gSteps tSteps Tryd.underlying143 Tryd.underlying89 (by kernel_rfl) (by kernel_rfl) (rest := []) h
  have hst : Steps W := fun k hk => by
    rw [ht.cell gSteps k hk, table_eq k hk]
    congr 2
    have : ∀ k : Fin 16, (table.map Int.ofNat).getD k.val 0 = ((table.getD k.val 0 : Nat) : Int) := by decide +kernel
    exact this ⟨k, hk⟩
  refine ⟨hst, ?_⟩
  rcases Nat.lt_or_ge 0 W.heap.size with h1 | h1
  · exact h1
  · exfalso
    have := hst 0 (by omega)
    have hn : W.heap[0]? = none := Array.getElem?_eq_none h1
    simp [World.cell?, hn] at this


end Go.Proofs.YtgbpofgmomglfaaDoor.Crc
