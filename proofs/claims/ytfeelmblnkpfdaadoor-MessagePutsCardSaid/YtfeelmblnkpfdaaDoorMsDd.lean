/-
  Layer 23: the document's Good.
-/
import Derived.Test.YtfeelmblnkpfdaaDoorMsDa
import Derived.Test.YtfeelmblnkpfdaaDoorLexT
import Derived.Deep.CutRange
namespace Go.Proofs.YtfeelmblnkpfdaaDoor.Ms
open Oct (pb bs rng)
open Go.RowKit
set_option maxRecDepth 100000
set_option linter.unusedSimpArgs false
set_option linter.unusedVariables false

theorem fields_any (m : Msg) (a : Option Addr) (cap : Nat) (b : Option Addr) (cap2 : Nat) (w : World) (h1 : 1 ≤ m.kind) (h2 : m.kind ≤ 12) : Calls Tryd.prog 16 #[.agg (cellsM m a cap b cap2)] w (fun e w' => e = .returned (.string (fieldsM m)) ∧ Below w.heap.size w w') := by
  have hk : m.kind = 1 ∨ m.kind = 2 ∨ m.kind = 3 ∨ m.kind = 4 ∨ m.kind = 5 ∨ m.kind = 6 ∨ m.kind = 7 ∨ m.kind = 8 ∨ m.kind = 9 ∨ m.kind = 10 ∨ m.kind = 11 ∨ m.kind = 12 := by omega
  unfold cellsM fieldsM
  rcases hk with h | h | h | h | h | h | h | h | h | h | h | h
  all_goals rw [h]
  · exact fields_1 m a cap b cap2 w
  · exact fields_2 m a cap b cap2 w
  · exact fields_3 m a cap b cap2 w
  · exact fields_4 m a cap b cap2 w
  · exact fields_5 m a cap b cap2 w
  · exact fields_6 m a cap b cap2 w
  · exact fields_7 m a cap b cap2 w
  · exact fields_8 m a cap b cap2 w
  · exact fields_9 m a cap b cap2 w
  · cases hf : m.full with
    | true => exact fields_10t m a cap b cap2 w
    | false => exact fields_10f m a cap b cap2 w
  · exact fields_11 m a cap b cap2 w
  · exact fields_12 m a cap b cap2 w
theorem fields_size (m : Msg) : (fieldsM m).size ≤ 100 := by
  unfold fieldsM
  split
  · decide
  · rcases Nat.lt_or_ge m.kind.toNat 13 with h | h
    · have : ∀ k : Fin 13, (fieldsT k).size ≤ 100 := by decide
      exact this ⟨_, h⟩
    · rw [show (fieldsT m.kind.toNat) = ⟨#[]⟩ from by unfold fieldsT; rw [List.getD_eq_getElem?_getD, List.getElem?_eq_none (by simpa using h)]; rfl]
      decide
def kindsB : ByteArray := ⟨#[63, 63, 118, 108, 111, 99, 105, 110, 120, 84]⟩
/-- Is the i-th number one of the kind's? -/
def ourB (f : ByteArray) (kind : Int) (i : Nat) : Bool := (decide (i < 2) && decide (1 < kind)) || (decide (1 < i) && hasL (bs f) (((bs kindsB).getD i 0).toNat : Int))
def numB (f : ByteArray) (kind : Int) (L : List Int) (i : Nat) : Bool := !badN (L.getD i 0) && (ourB f kind i || decide (L.getD i 0 = 0))
def badX (x : Ent) : Bool := decide (x.client < 0) || decide (2 < x.client) || decide (x.number < 1) || badN x.number || decide (8192 < x.text.size)
def knB (kind frm : Int) (n : Nat) (r : Int) : Bool := !((decide (kind = 1) && decide (0 < n)) || (decide (1 < kind) && (decide (¬ (n : Int) = r) || decide (r ≤ frm))))
def wideB (f : ByteArray) (kind : Int) (text : ByteArray) (full : Bool) (state : ByteArray) (nn : Nat) : Bool :=
  !((decide (¬ text.size = 0) && !hasL (bs f) 116) || decide (8192 < text.size) || (full && decide (¬ kind = 10)) || (decide (¬ state.size = 0) && !hasL (bs f) 84) || decide (65536 < state.size) || decide (64 < nn))
def docB (m : Msg) (r : Int) : Bool :=
  (groupB r && knownB m.kind) && ((List.range 10).all (numB (fieldsM m) m.kind (numsM m)) && (knB m.kind m.frm m.known.length r && (!m.known.any badN && (wideB (fieldsM m) m.kind m.text m.full m.state m.ents.length && (!m.ents.any badX
  && (!(hasL (bs (fieldsM m)) 105 && (decide (2 < m.client) || decide (m.number < 1))) && (!(hasL (bs (fieldsM m)) 120 && decide (m.nonce < 1)) && (!(hasL (bs (fieldsM m)) 99 && decide (m.op < m.commit))
  && (if hasL (bs (fieldsM m)) 101 = true then decide (m.ents.length = 1) && decide (0 < m.op) else if hasL (bs (fieldsM m)) 84 = true then decide (m.last ≤ m.view) && decide (m.base ≤ m.commit) && decide ((m.ents.length : Int) = m.op - m.base) && (decide (0 < m.base) || decide (m.state.size = 0)) else decide (m.ents.length = 0))))))))))
end Go.Proofs.YtfeelmblnkpfdaaDoor.Ms
