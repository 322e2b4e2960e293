/-
  Layer 23: messages in plain words, and in memory.
-/
import Derived.Test.YtgbpofgmomglfaaDoorGn
namespace Go.Proofs.YtgbpofgmomglfaaDoor.Ms
open Go.RowKit
set_option maxRecDepth 100000
set_option linter.unusedSimpArgs false
set_option linter.unusedVariables false

structure Ent where
  client : Int
  number : Int
  text : ByteArray
structure Msg where
  kind : Int
  frm : Int
  born : Int
  known : List Int
  view : Int
  last : Int
  op : Int
  commit : Int
  client : Int
  number : Int
  nonce : Int
  text : ByteArray
  full : Bool
  base : Int
  state : ByteArray
  ents : List Ent
/-- A row of numbers in memory. -/
def Ints (w : World) (a : Option Addr) (n : Nat) (ks : List Int) : Prop :=
  ks.length = n ∧ (0 < n → ∃ b off, a = some ⟨b, off, none⟩ ∧ b < w.heap.size ∧ ∀ i, i < n → w.cell? ⟨b, off + i, none⟩ = some (.int .i64 (ks.getD i 0)))
theorem Ints.under {w w' : World} {a : Option Addr} {n : Nat} {ss : List Int} (h : Ints w a n ss) (b : Below w.heap.size w w') : Ints w' a n ss := by
  refine ⟨h.1, fun h0 => ?_⟩
  obtain ⟨r, off, e, hr, hc⟩ := h.2 h0
  exact ⟨r, off, e, by have := b.size; omega, fun i hi => (b.cell (p := ⟨r, off + i, none⟩) hr).trans (hc i hi)⟩
theorem Ints.get {w : World} {a : Option Addr} {n : Nat} {ss : List Int} (h : Ints w a n ss) (k : Nat) (hk : k < n) : ∃ b off, a = some ⟨b, off, none⟩ ∧ b < w.heap.size ∧ w.cell? ⟨b, off + k, none⟩ = some (.int .i64 (ss[k]'(by rw [h.1]; exact hk))) := by
  obtain ⟨b, off, e, hb, hc⟩ := h.2 (by omega)
  refine ⟨b, off, e, hb, ?_⟩
  rw [hc k hk, List.getD_eq_getElem?_getD, List.getElem?_eq_getElem (by rw [h.1]; exact hk)]
  rfl
theorem Ints.nil (w : World) : Ints w none 0 [] := ⟨rfl, fun h => absurd h (by decide)⟩
/-- A row of entries in memory: three cells each. -/
def Ents (w : World) (a : Option Addr) (n : Nat) (es : List Ent) : Prop :=
  es.length = n ∧ (0 < n → ∃ b off, a = some ⟨b, off, none⟩ ∧ b < w.heap.size ∧ ∀ i (h : i < es.length), w.cell? ⟨b, off + i * 3, none⟩ = some (.int .i64 es[i].client) ∧ w.cell? ⟨b, off + i * 3 + 1, none⟩ = some (.int .i64 es[i].number) ∧ w.cell? ⟨b, off + i * 3 + 2, none⟩ = some (.string es[i].text))
theorem Ents.under {w w' : World} {a : Option Addr} {n : Nat} {ss : List Ent} (h : Ents w a n ss) (b : Below w.heap.size w w') : Ents w' a n ss := by
  refine ⟨h.1, fun h0 => ?_⟩
  obtain ⟨r, off, e, hr, hc⟩ := h.2 h0
  exact ⟨r, off, e, by have := b.size; omega, fun i hi => ⟨(b.cell (p := ⟨r, off + i * 3, none⟩) hr).trans (hc i hi).1, (b.cell (p := ⟨r, off + i * 3 + 1, none⟩) hr).trans (hc i hi).2.1, (b.cell (p := ⟨r, off + i * 3 + 2, none⟩) hr).trans (hc i hi).2.2⟩⟩
theorem Ents.get {w : World} {a : Option Addr} {n : Nat} {ss : List Ent} (h : Ents w a n ss) (k : Nat) (hk : k < n) : ∃ b off, a = some ⟨b, off, none⟩ ∧ b < w.heap.size ∧ w.cell? ⟨b, off + k * 3, none⟩ = some (.int .i64 (ss[k]'(by rw [h.1]; exact hk)).client) ∧ w.cell? ⟨b, off + k * 3 + 1, none⟩ = some (.int .i64 (ss[k]'(by rw [h.1]; exact hk)).number) ∧ w.cell? ⟨b, off + k * 3 + 2, none⟩ = some (.string (ss[k]'(by rw [h.1]; exact hk)).text) := by
  obtain ⟨b, off, e, hb, hc⟩ := h.2 (by omega)
  exact ⟨b, off, e, hb, hc k (by rw [h.1]; exact hk)⟩
theorem Ents.nil (w : World) : Ents w none 0 [] := ⟨rfl, fun h => absurd h (by decide)⟩
/-- The cells of a message. -/
def cellsM (m : Msg) (a : Option Addr) (cap : Nat) (b : Option Addr) (cap2 : Nat) : Array Value := #[.int .i64 m.kind, .int .i64 m.frm, .int .i64 m.born, .slice a m.known.length cap, .int .i64 m.view, .int .i64 m.last, .int .i64 m.op, .int .i64 m.commit, .int .i64 m.client, .int .i64 m.number, .int .i64 m.nonce, .string m.text, .bool m.full, .int .i64 m.base, .string m.state, .slice b m.ents.length cap2]
def MsgAt (W : World) (m : Msg) (v : Value) : Prop := ∃ a cap b cap2, v = .agg (cellsM m a cap b cap2) ∧ Ints W a m.known.length m.known ∧ Ents W b m.ents.length m.ents
theorem MsgAt.under {W W' : World} {m : Msg} {v : Value} (h : MsgAt W m v) (b : Below W.heap.size W W') : MsgAt W' m v := by
  obtain ⟨a, cap, c, cap2, e, h1, h2⟩ := h
  exact ⟨a, cap, c, cap2, e, h1.under b, h2.under b⟩
/-! ### May there be such a message? -/
def badN (n : Int) : Bool := decide (n < 0) || decide (9007199254740992 < n)
def badE (x : Ent) : Bool := badN x.client || decide (3 ≤ x.client) || badN x.number || decide (x.number = 0) || decide (8192 < x.text.size)
def groupB (r : Int) : Bool := decide (r = 3) || decide (r = 5) || decide (r = 7)
def knownB (k : Int) : Bool := decide (1 ≤ k) && decide (k ≤ 12)
def numsM (m : Msg) : List Int := [m.frm, m.born, m.view, m.last, m.op, m.commit, m.client, m.number, m.nonce, m.base]
def senderB (m : Msg) (r : Int) : Bool := decide (m.kind = 1) || (decide (m.frm < r) && decide ((m.known.length : Int) = r) && !m.known.any badN)
def leastB (m : Msg) : Bool := if m.kind = 1 ∨ m.kind = 4 then decide (0 < m.number) else if m.kind = 2 then decide (0 < m.op) else if m.kind = 9 ∨ m.kind = 10 then decide (0 < m.nonce) else true
def sizeM (m : Msg) : Int := if m.kind = 2 then 1 else if m.kind = 7 ∨ m.kind = 8 ∨ m.kind = 10 ∨ m.kind = 12 then m.op - m.base else 0
/-- What the wiper leaves. -/
def wipeT (m : Msg) : Msg := { m with op := 0, commit := 0, base := 0, state := ⟨#[]⟩, ents := [] }
def wipeK (m : Msg) : Msg :=
  if m.kind = 1 then { m with client := 0, number := 0, text := ⟨#[]⟩ } else if m.kind = 2 then { m with view := 0, op := 0, commit := 0, ents := [] } else if m.kind = 3 then { m with view := 0, op := 0 } else if m.kind = 11 then { m with view := 0, op := 0 }
  else if m.kind = 4 then { m with view := 0, client := 0, number := 0, text := ⟨#[]⟩ } else if m.kind = 5 then { m with view := 0, op := 0, commit := 0 } else if m.kind = 6 then { m with view := 0 }
  else if m.kind = 7 then wipeT { m with view := 0, last := 0 } else if m.kind = 8 then wipeT { m with view := 0 } else if m.kind = 12 then wipeT { m with view := 0 } else if m.kind = 9 then { m with nonce := 0 }
  else if m.kind = 10 then (if m.full = true then wipeT { m with view := 0, nonce := 0, full := false } else { m with view := 0, nonce := 0, full := false }) else m
def wipeM (m : Msg) : Msg := if m.kind = 1 then wipeK m else wipeK { m with frm := 0, born := 0, known := [] }
def nonz (n : Int) : Bool := decide (n ≠ 0)
def emptyB (m : Msg) : Bool := !(numsM m).any nonz && decide (m.text.size = 0) && !m.full && decide (m.state.size = 0) && decide (m.known.length = 0) && decide (m.ents.length = 0)
def bareB (m : Msg) : Bool := emptyB (wipeM m)
def goodM (m : Msg) (r : Int) : Bool :=
  groupB r && knownB m.kind && bareB m && !(numsM m).any badN && senderB m r && leastB m && decide (m.text.size ≤ 8192) && decide (m.client < 3) && decide (m.last ≤ m.view) && decide (m.base ≤ m.commit) && decide (m.commit ≤ m.op)
  && decide (m.state.size ≤ 65536) && (decide (m.state.size = 0) || decide (0 < m.base)) && decide ((m.ents.length : Int) = sizeM m) && decide (m.ents.length ≤ 64) && !m.ents.any badE
end Go.Proofs.YtgbpofgmomglfaaDoor.Ms
