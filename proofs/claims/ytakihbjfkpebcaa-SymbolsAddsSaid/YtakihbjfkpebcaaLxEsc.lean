/-
  The walks of digit, pair and escape.
-/
import Derived.Test.YtakihbjfkpebcaaLxTake
import Derived.Laws.BitsAllLaws
namespace Go.Proofs.Ytakihbjfkpebcaa.Lx
open Go.RowKit
set_option maxRecDepth 100000

def hexN (c : Nat) : Option Nat := if 48 ≤ c ∧ c ≤ 57 then some (c - 48) else if 97 ≤ c ∧ c ≤ 102 then some (c - 87) else none
theorem hexN_lt {c h : Nat} (e : hexN c = some h) : h < 16 := by
  unfold hexN at e
  split at e
  · cases e; omega
  · split at e
    · cases e; omega
    · cases e

def digitsL : List UInt8 := [48, 49, 50, 51, 52, 53, 54, 55, 56, 57, 97, 98, 99, 100, 101, 102]
theorem digits_fin : ∀ n : Fin 256, Lib.indexByte digitsL (UInt8.ofNat n.val) = match hexN n.val with | none => -1 | some h => (h : Int) := by decide +kernel
theorem digits_at (c : UInt8) : Lib.indexByte digitsL c = match hexN c.toNat with | none => -1 | some h => (h : Int) := by
  have := digits_fin ⟨c.toNat, c.toNat_lt⟩
  simpa using this

theorem among_u8 (c : UInt8) (s : ByteArray) (w : World) :
    Calls Try.prog 63 #[.int .u8 c.toNat, .string s] w fun e w' => e = .returned (.bool (decide (0 ≤ Lib.indexByte (bs s) c))) ∧ w = w' := by
  have := among_any c.toNat s w
  rw [show ((c.toNat : Int).toNat.toUInt8) = c by simp] at this
  exact this

theorem take_one : ∀ (l : List UInt8) (h : 0 < l.length), l.take 1 = [l[0]]
  | [], h => absurd h (by simp)
  | _ :: _, _ => rfl
theorem head_one (t : ByteArray) (h : 0 < t.size) : head t 1 = ⟨#[t[0]]⟩ := by
  have : bs (head t 1) = [t[0]] := by
    rw [bs_head]
    show (bs t).take 1 = [(bs t)[0]]
    exact take_one (bs t) h
  apply ByteArray.ext
  apply Array.ext'
  exact this

/-- The digit that a text begins with: its number, whether there is one, how many bytes are taken. -/
def rdig : List UInt8 → Nat × Bool × Nat
  | [] => (0, false, 0)
  | c :: _ => match hexN c.toNat with | none => (0, false, 0) | some h => (h, true, 1)
/-- The two digits of a byte. -/
def rpair (l : List UInt8) : Nat × Bool × Nat :=
  if (rdig l).2.1 = true then (16 * (rdig l).1 + (rdig (l.drop 1)).1, (rdig (l.drop 1)).2.1, 1 + (rdig (l.drop 1)).2.2) else (0, false, 0)

/-- What a taking call leaves: its answer, and the scanner n bytes further on. -/
def Took (w : World) (g : Nat) (t : ByteArray) (line col : Nat) (v : Value) (n : Nat) (e : Ending) (w' : World) : Prop :=
  e = .returned v ∧ Sc w' g (cut t n) line (col + n) ∧ Sep g w.heap.size w w'

theorem cut_zero (t : ByteArray) : cut t 0 = t := by
  have : bs (cut t 0) = bs t := by rw [bs_cut]; rfl
  apply ByteArray.ext
  apply Array.ext'
  exact this
theorem rdig_cons (t : ByteArray) (h : 0 < t.size) : rdig (bs t) = match hexN t[0].toNat with | none => (0, false, 0) | some h => (h, true, 1) := by
  have : ∀ (l : List UInt8) (h : 0 < l.length), rdig l = match hexN l[0].toNat with | none => (0, false, 0) | some h => (h, true, 1) := fun l h => by
    cases l with
    | nil => exact absurd h (by simp)
    | cons a l => rfl
  exact this (bs t) h

def dgt : ByteArray := ⟨#[48, 49, 50, 51, 52, 53, 54, 55, 56, 57, 97, 98, 99, 100, 101, 102]⟩

set_option maxHeartbeats 1000000 in
theorem digit_any (g : Nat) (t : ByteArray) (line col : Nat) (w : World) (h : Sc w g t line col) (hc : col < 4611686018427387904) :
    Calls Try.prog 101 #[.pointer (some ⟨g, 0, none⟩)] w (Took w g t line col (.tuple #[.int .u8 ((rdig (bs t)).1 : Nat), .bool (rdig (bs t)).2.1]) (rdig (bs t)).2.2) := by
  have c0 : w.cell? ⟨g, 0, none⟩ = some (.string t) := cell_of_row w g 0 _ _ (0, 0) h
  by_cases h0 : t.size = 0
  · have := empty_of h0
    subst this
    have H := Lib.hid h
    clear h
    go_enter Try.func101, Try.ntmps101
    go_wp2
    go_ret2
    exact ⟨rfl, by rw [show (rdig (bs ⟨#[]⟩)).2.2 = 0 from rfl, cut_zero]; exact H.out, Sep.refl _ _ _⟩
  · have hp : 0 < t.size := by omega
    have he := nempty hp
    rw [rdig_cons t hp]
    have HA := among_u8 t[0] dgt
    rw [show bs dgt = digitsL from rfl, digits_at] at HA
    have KT := Lib.hid (take_any g t line col 1 w h (by omega) (by omega))
    cases hx : hexN t[0].toNat with
    | none =>
      rw [hx] at HA
      have K1 := Lib.hid HA
      have H := Lib.hid h
      clear h HA hx
      go_enter Try.func101, Try.ntmps101
      go_wp2_with fail
      refine (K1.out _).mono ?_
      rintro e w1 ⟨rfl, rfl⟩
      go_wp2
      go_ret2
      exact ⟨rfl, by show Sc _ _ (cut t 0) _ _; rw [cut_zero]; exact H.out, Sep.refl _ _ _⟩
    | some d =>
      have hd := hexN_lt hx
      rw [hx] at HA
      have HI : ∀ W : World, Calls Try.prog 104 #[.string dgt, .string (head t 1)] W fun e w' => e = .returned (.int .i64 (d : Int)) ∧ w' = W := fun W => by
        have := Try.strings_Index_one dgt t[0] W
        rw [show dgt.data.toList = digitsL from rfl, digits_at, hx] at this
        rw [head_one t hp]
        exact this
      rw [show decide ((0 : Int) ≤ (match some d with | none => -1 | some h => (h : Int))) = true from by simp] at HA
      have K1 := Lib.hid HA
      have K2 := Lib.hid HI
      clear h HA HI hx
      go_enter Try.func101, Try.ntmps101
      go_wp2_with fail
      refine (K1.out _).mono ?_
      rintro e w1 ⟨rfl, rfl⟩
      go_wp2_with fail
      refine KT.out.mono ?_
      rintro e w1 ⟨rfl, s1, s2⟩
      go_wp2_with fail
      refine (K2.out _).mono ?_
      rintro e w2 ⟨rfl, rfl⟩
      go_wp2
      go_ret2
      exact ⟨rfl, s1, s2⟩

end Go.Proofs.Ytakihbjfkpebcaa.Lx
