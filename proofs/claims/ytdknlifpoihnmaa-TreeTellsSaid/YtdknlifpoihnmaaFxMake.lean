/-
  The walk of made.
-/
import Derived.Test.YtdknlifpoihnmaaFxMade
import Derived.Laws.BytesArg
namespace Go.Proofs.Ytdknlifpoihnmaa.Fx
open Go.RowKit
set_option maxRecDepth 100000
set_option linter.unusedSimpArgs false

theorem and3 (z : Int) : bits .and .i64 z 3 = z % 4 := by
  show IntKind.i64.wrap ((BitVec.ofInt 64 z &&& BitVec.ofInt 64 3).toNat : Int) = _
  have h3 : (BitVec.ofInt 64 3).toNat = 2 ^ 2 - 1 := by decide
  rw [BitVec.toNat_and, h3, Nat.and_two_pow_sub_one_eq_mod, BitVec.toNat_ofInt]
  rw [IntWalk.i64_in _ (by omega)]
  omega
theorem and7 (z : Int) : bits .and .i64 z 7 = z % 8 := by
  show IntKind.i64.wrap ((BitVec.ofInt 64 z &&& BitVec.ofInt 64 7).toNat : Int) = _
  have h3 : (BitVec.ofInt 64 7).toNat = 2 ^ 3 - 1 := by decide
  rw [BitVec.toNat_and, h3, Nat.and_two_pow_sub_one_eq_mod, BitVec.toNat_ofInt]
  rw [IntWalk.i64_in _ (by omega)]
  omega
theorem sinfo : (Try.prog.info? 9).map (fun i => (i.zero, i.size, i.bytes)) = some (some (.string ⟨#[]⟩), 1, 16) := by kernel_rfl
/-- A text of one letter, out of a new row of one byte. -/
theorem letter_new (c i : Nat) (h : c + i < 256) (x : Int) (hx : x = ((c + i : Nat) : Int)) (W : World) :
    (convert 76 9 (.slice (some ⟨W.heap.size, 0, none⟩) 1 1)).run Try.prog (W.alloc (.cells #[.int .u8 x] 5)) = .ok (.string (letter c i)) (W.alloc (.cells #[.int .u8 x] 5)) := by
  subst hx
  have hu : (UInt8.ofNat (c + i)).toNat = c + i := by simp; omega
  have := run_convert_bytes_back (P := Try.prog) (W.alloc (.cells #[.int .u8 ((c + i : Nat) : Int)] 5)) 76 9 5 ⟨W.heap.size, 0, none⟩ 1 [UInt8.ofNat (c + i)] Try.underlying76 Try.underlying5 Try.underlying9 (fun j hj => by
    have e : j = 0 := by simp at hj; omega
    subst e
    refine Gn.row_new W [.int .u8 ((c + i : Nat) : Int)] _ _ rfl 0 _ ?_
    show some (Value.int .u8 ((c + i : Nat) : Int)) = some (Value.int .u8 (((UInt8.ofNat (c + i)).toNat : Nat) : Int))
    rw [hu])
  exact this

def lets (c k : Nat) : List Value := ((List.range k).map (letter c)).map Value.string
theorem lets_succ (c k : Nat) : lets c (k + 1) = lets c k ++ [.string (letter c k)] := by simp [lets, List.range_succ]
/-- Within made: the document's grammar that grows: its box, its rows of texts. -/
structure MkN (V0 : World) (B : Nat) (st n : Int) (va vb : Value) (ka kb : Nat) (W : World) : Prop where
  box : W.heap[B]? = some (.cells #[.int .i64 st, .int .i64 n, va, vb, .slice none 0 0] 34 (0, 0))
  na : W.ownsRow (B + 1) 9 1 va ka (lets 65 ka)
  nb : W.ownsRow (B + 1) 9 1 vb kb (lets 97 kb)
  apart : ∀ g, va.ownBlock = some g → vb.ownBlock ≠ some g
  below : Below B V0 W
section
variable {V0 W w4 : World} {B : Nat} {st n : Int} {va vb v' : Value} {ka kb : Nat}
theorem MkN.alloc (h : MkN V0 B st n va vb ka kb W) (o : Obj) : MkN V0 B st n va vb ka kb (W.alloc o) :=
  ⟨(heap_alloc_old W o (Gn.heap_lt h.box)).trans h.box, h.na.alloc o, h.nb.alloc o, h.apart, h.below.alloc (by have := Gn.heap_lt h.box; omega) o⟩
/-- One text more among the names. -/
theorem MkN.name (h : MkN V0 B st n va vb ka kb W) (ho : w4.ownsRow (B + 1) 9 1 v' (ka + 1) (lets 65 ka ++ [.string (letter 65 ka)])) (hg : W.grownBy w4 va.ownBlock) (hat : ∀ g, v'.ownBlock = some g → va.ownBlock = some g ∨ g = W.heap.size) :
    MkN V0 B st n v' vb (ka + 1) kb (w4.setCell ⟨B, 2, none⟩ v') := by
  have hB := Gn.heap_lt h.box
  have hne : ∀ g, va.ownBlock = some g → B + 1 ≤ g ∧ g < W.heap.size := fun g hg => own_base h.na hg
  have hbx := (hg.block B hB (fun e => by have := (hne B e.symm).1; omega)).trans h.box
  have hset : ∀ q, B ≠ q → (w4.setCell ⟨B, 2, none⟩ v').heap[q]? = w4.heap[q]? := fun q hq => Gn.set_keep w4 2 v' hq
  refine ⟨?_, ?_, ?_, fun g h1 h2 => ?_, (h.below.grown hg (by omega) (fun j hj => by have := (hne j hj).1; omega)).setCell (Nat.le_refl B) _⟩
  · have := Gn.heap_set hbx 2 v'
    exact this
  · rw [lets_succ]
    exact own_of_block ho fun q hq => hset q (by have := (own_base ho hq).1; omega)
  · refine own_of_block h.nb fun q hq => ?_
    have h3 := own_base h.nb hq
    rw [hset q (by omega)]
    exact hg.block q h3.2 fun e => h.apart q e.symm hq
  · have h3 := own_base h.nb h2
    rcases hat g h1 with h4 | h4
    · exact h.apart g h4 h2
    · omega
/-- One text more among the terminals. -/
theorem MkN.term (h : MkN V0 B st n va vb ka kb W) (ho : w4.ownsRow (B + 1) 9 1 v' (kb + 1) (lets 97 kb ++ [.string (letter 97 kb)])) (hg : W.grownBy w4 vb.ownBlock) (hat : ∀ g, v'.ownBlock = some g → vb.ownBlock = some g ∨ g = W.heap.size) :
    MkN V0 B st n va v' ka (kb + 1) (w4.setCell ⟨B, 3, none⟩ v') := by
  have hB := Gn.heap_lt h.box
  have hne : ∀ g, vb.ownBlock = some g → B + 1 ≤ g ∧ g < W.heap.size := fun g hg => own_base h.nb hg
  have hbx := (hg.block B hB (fun e => by have := (hne B e.symm).1; omega)).trans h.box
  have hset : ∀ q, B ≠ q → (w4.setCell ⟨B, 3, none⟩ v').heap[q]? = w4.heap[q]? := fun q hq => Gn.set_keep w4 3 v' hq
  refine ⟨?_, ?_, ?_, fun g h1 h2 => ?_, (h.below.grown hg (by omega) (fun j hj => by have := (hne j hj).1; omega)).setCell (Nat.le_refl B) _⟩
  · have := Gn.heap_set hbx 3 v'
    exact this
  · refine own_of_block h.na fun q hq => ?_
    have h3 := own_base h.na hq
    rw [hset q (by omega)]
    exact hg.block q h3.2 fun e => h.apart q hq e.symm
  · rw [lets_succ]
    exact own_of_block ho fun q hq => hset q (by have := (own_base ho hq).1; omega)
  · have h3 := own_base h.na h1
    rcases hat g h2 with h4 | h4
    · exact h.apart g h1 h4
    · omega
end

end Go.Proofs.Ytdknlifpoihnmaa.Fx
