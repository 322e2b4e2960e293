/-
  The scanner's block, and the walks of take, digit, pair, escape.
-/
import Derived.Test.YtakihbjfkpebcaaLxName
namespace Go.Proofs.Ytakihbjfkpebcaa.Lx
open Go.RowKit
set_option maxRecDepth 100000

/-- Below block c, and but for block g, the world w' is as w was. -/
structure Sep (g c : Nat) (w w' : World) : Prop where
  os : w'.os = w.os
  tape : w'.tape = w.tape
  output : w'.output = w.output
  size : w.heap.size ≤ w'.heap.size
  block : ∀ k, k < c → k ≠ g → w'.heap[k]? = w.heap[k]?
section
variable {g c : Nat} {w w' a b : World}
theorem Sep.refl (g c : Nat) (w : World) : Sep g c w w := ⟨rfl, rfl, rfl, Nat.le_refl _, fun _ _ _ => rfl⟩
theorem Sep.trans {d : World} (h : Sep g c a b) (k : Sep g c b d) : Sep g c a d :=
  ⟨k.os.trans h.os, k.tape.trans h.tape, k.output.trans h.output, Nat.le_trans h.size k.size, fun i hi hg => (k.block i hi hg).trans (h.block i hi hg)⟩
theorem Sep.mono {c' : Nat} (h : Sep g c a b) (hc : c' ≤ c) : Sep g c' a b := ⟨h.os, h.tape, h.output, h.size, fun k hk hg => h.block k (by omega) hg⟩
theorem Sep.next {d : World} (h : Sep g a.heap.size a b) (k : Sep g b.heap.size b d) : Sep g a.heap.size a d := h.trans (k.mono h.size)
theorem Sep.of_below (h : Below c w w') : Sep g c w w' := ⟨h.os, h.tape, h.output, h.size, fun k hk _ => h.block k hk⟩
theorem Sep.below (h : Sep g c w w') {B : Nat} (hg : B ≤ g) (hc : B ≤ c) : Below B w w' := ⟨h.os, h.tape, h.output, h.size, fun k hk => h.block k (by omega) (by omega)⟩
theorem Sep.setCell (h : Sep g c a w) {p : Addr} (hp : p.block = g ∨ c ≤ p.block) (u : Value) : Sep g c a (w.setCell p u) :=
  h.trans ⟨rfl, rfl, rfl, by simp [World.setCell], fun k hk hg => Below.heap_setCell _ _ _ _ (by omega)⟩
end

theorem heap_set {w : World} {g : Nat} {cs : Array Value} {t : TypeId} {fr : Nat × Nat} (h : w.heap[g]? = some (.cells cs t fr)) (i : Nat) (u : Value) : (w.setCell ⟨g, i, none⟩ u).heap[g]? = some (.cells (cs.setIfInBounds i u) t fr) := by
  simp [World.setCell, Array.getElem?_modify, h]

/-- Block g is a scanner with this text left, at this line and column. -/
def Sc (w : World) (g : Nat) (t : ByteArray) (line col : Nat) : Prop := w.heap[g]? = some (.cells #[.string t, .int .i64 line, .int .i64 col] 108 (0, 0))

/-- What is left behind the first n bytes. -/
def cut (t : ByteArray) (n : Nat) : ByteArray := t.extract n t.size
theorem bs_cut (t : ByteArray) (n : Nat) : bs (cut t n) = (bs t).drop n := Lib.extract_to_end t n
def head (t : ByteArray) (n : Nat) : ByteArray := t.extract 0 n
theorem bs_head (t : ByteArray) (n : Nat) : bs (head t n) = (bs t).take n := by
  show (t.extract 0 n).data.toList = _; rw [Lib.extract_data]; rfl
theorem bs_len (t : ByteArray) : (bs t).length = t.size := rfl

theorem take_any (g : Nat) (t : ByteArray) (line col n : Nat) (w : World) (h : Sc w g t line col) (hn : n ≤ t.size) (hc : col + n < 9223372036854775808) :
    Calls Try.prog 60 #[.pointer (some ⟨g, 0, none⟩), .int .i64 n] w fun e w' => e = .returned (.string (head t n)) ∧ Sc w' g (cut t n) line (col + n) ∧ Sep g w.heap.size w w' := by
  have c0 : w.cell? ⟨g, 0, none⟩ = some (.string t) := cell_of_row w g 0 _ _ (0, 0) h
  have c2 : w.cell? ⟨g, 2, none⟩ = some (.int .i64 col) := cell_of_row w g 2 _ _ (0, 0) h
  have f0 : ∀ i, w.frozen? ⟨g, i, none⟩ = false := fun i => by have h' := h; unfold Sc at h'; simp [World.frozen?, h']
  obtain ⟨a, ha⟩ : ∃ a, a = head t n := ⟨_, rfl⟩
  obtain ⟨b, hb⟩ : ∃ b, b = cut t n := ⟨_, rfl⟩
  have s1 : ∀ W : World, (Instr.slice 9 (.string t) none (some (.int .i64 (n : Int))) none).run Try.prog W = .ok (.string a) W := by
    intro W
    rw [run_slice_string_h W 9 t Try.underlying9 .i64 _ (by omega) (by omega), ha]
    rfl
  have s2 : ∀ W : World, (Instr.slice 9 (.string t) (some (.int .i64 (n : Int))) none none).run Try.prog W = .ok (.string b) W := by
    intro W
    rw [run_slice_string_l W 9 t Try.underlying9 .i64 _ (by omega) (by omega), hb]
    rfl
  rw [← ha, ← hb]
  have H := Lib.hid h
  clear h ha hb
  go_enter Try.func60, Try.ntmps60
  go_wp2
  go_ret
  refine ⟨rfl, ?_, Sep.setCell (p := ⟨g, 2, none⟩) (Sep.setCell (p := ⟨g, 0, none⟩) (Sep.refl g _ w) (.inl rfl) _) (.inl rfl) _⟩
  exact heap_set (heap_set H.out 0 _) 2 _

end Go.Proofs.Ytakihbjfkpebcaa.Lx
