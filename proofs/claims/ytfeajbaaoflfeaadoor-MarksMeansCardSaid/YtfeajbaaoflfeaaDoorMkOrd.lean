/-
  Plain mathematics of marks: the order of words is that of whole numbers. It imports nothing of the program.
-/
import Derived.Test.YtfeajbaaoflfeaaDoorMkFloat
namespace Go.Proofs.YtfeajbaaoflfeaaDoor.Mk
open Ieee (Datum Format)

/-- More than any number's power. -/
def E : Nat := 2100
/-- A datum as a whole number (times a power of two). -/
def wval : Datum → Int
  | .number s m i => Ieee.signed s m (i + 1074).toNat
  | .infinity s => if s then -(2 ^ E) else 2 ^ E
  | .nan _ _ => 0
/-- A word as a whole number. -/
def key (b : Nat) : Int := wval (Ieee.double.read b)

theorem read_number (b : Nat) (s : Bool) (m : Nat) (i : Int) (h : Ieee.double.read b = .number s m i) : -1074 ≤ i ∧ i ≤ 971 ∧ m < 9007199254740992 := by
  unfold Format.read at h
  simp only [sw, bin, infr, lp] at h
  have hm := Nat.mod_lt b (show 9223372036854775808 > 0 by omega)
  generalize b % 9223372036854775808 = r at *
  generalize (b / 9223372036854775808 % 2 == 1) = t at *
  split at h
  · injection h with h1 h2 h3; omega
  · split at h
    · injection h with h1 h2 h3
      have hq : r / 4503599627370496 < 2047 := by omega
      have hq1 : 1 ≤ r / 4503599627370496 := by omega
      generalize r / 4503599627370496 = q at *
      have := Nat.mod_lt r (show 4503599627370496 > 0 by omega)
      omega
    · split at h <;> cases h

theorem signed_up (s : Bool) (m k c : Nat) : Ieee.signed s m (k + c) = Ieee.signed s m k * 2 ^ c := by
  unfold Ieee.signed
  rw [Nat.shiftLeft_eq, Nat.shiftLeft_eq, Nat.pow_add, ← Nat.mul_assoc]
  split
  · rw [Int.neg_mul]; simp
  · simp
theorem compare_up (x y : Int) (c : Nat) : compare (x * 2 ^ c) (y * 2 ^ c) = compare x y := by
  have hp : (0 : Int) < 2 ^ c := Int.pow_pos (by omega)
  rcases Int.lt_trichotomy x y with h | h | h
  · rw [Int.compare_eq_lt.2 h, Int.compare_eq_lt.2 (Int.mul_lt_mul_of_pos_right h hp)]
  · subst h; simp
  · rw [Int.compare_eq_gt.2 h, Int.compare_eq_gt.2 (Int.mul_lt_mul_of_pos_right h hp)]
theorem signed_abs (s : Bool) (m k : Nat) (hm : m < 9007199254740992) (hk : k ≤ 2045) : -(2 ^ E) < Ieee.signed s m k ∧ Ieee.signed s m k < 2 ^ E := by
  have h1 : m * 2 ^ k < 2 ^ E := by
    have h4 : m * 2 ^ k < 2 ^ 53 * 2 ^ k := Nat.mul_lt_mul_of_pos_right (by simpa using hm) (Nat.two_pow_pos k)
    rw [← Nat.pow_add] at h4
    exact Nat.lt_of_lt_of_le h4 (Nat.pow_le_pow_right (by omega) (by unfold E; omega))
  have h6 : ((m * 2 ^ k : Nat) : Int) < ((2 ^ E : Nat) : Int) := Int.ofNat_lt.2 h1
  rw [Int.natCast_pow] at h6
  have h6' : ((m * 2 ^ k : Nat) : Int) < (2 : Int) ^ E := h6
  clear h6
  have h7 : (0 : Int) ≤ ((m * 2 ^ k : Nat) : Int) := by omega
  have h8 : (0 : Int) < 2 ^ E := Int.pow_pos (by omega)
  unfold Ieee.signed
  rw [Nat.shiftLeft_eq]
  generalize ((m * 2 ^ k : Nat) : Int) = x at *
  generalize (2 : Int) ^ 2100 = y at *
  split <;> omega

/-- The order of words is that of whole numbers. -/
theorem ord_key (a b : Nat) (ha : isN a = false) (hb : isN b = false) : ord a b = some (compare (key a) (key b)) := by
  rw [← read_nan] at ha hb
  have h8 : (0 : Int) < 2 ^ E := Int.pow_pos (by omega)
  unfold ord key
  rw [fmt]
  unfold Format.order
  cases ea : Ieee.double.read a with
  | nan s t => rw [ea] at ha; cases ha
  | infinity s =>
    cases eb : Ieee.double.read b with
    | nan s t => rw [eb] at hb; cases hb
    | infinity t =>
      simp only [Datum.order, wval]
      generalize (2 : Int) ^ 2100 = y at *
      cases s <;> cases t <;> simp
      · exact (Int.compare_eq_gt.2 (by omega)).symm
      · exact (Int.compare_eq_lt.2 (by omega)).symm
    | number t n j =>
      obtain ⟨h1, h2, h3⟩ := read_number b t n j eb
      have := signed_abs t n (j + 1074).toNat h3 (by omega)
      simp only [Datum.order, wval]
      generalize Ieee.signed t n (j + 1074).toNat = x at *
      generalize (2 : Int) ^ 2100 = y at *
      cases s
      · simp; exact (Int.compare_eq_gt.2 (by omega)).symm
      · simp; exact (Int.compare_eq_lt.2 (by omega)).symm
  | number s m i =>
    obtain ⟨h1, h2, h3⟩ := read_number a s m i ea
    cases eb : Ieee.double.read b with
    | nan s t => rw [eb] at hb; cases hb
    | infinity t =>
      have := signed_abs s m (i + 1074).toNat h3 (by omega)
      simp only [Datum.order, wval]
      generalize Ieee.signed s m (i + 1074).toNat = x at *
      generalize (2 : Int) ^ 2100 = y at *
      cases t
      · simp; exact (Int.compare_eq_lt.2 (by omega)).symm
      · simp; exact (Int.compare_eq_gt.2 (by omega)).symm
    | number t n j =>
      obtain ⟨g1, g2, g3⟩ := read_number b t n j eb
      simp only [Datum.order, wval]
      rw [show (i + 1074).toNat = (i - min i j).toNat + (min i j + 1074).toNat from by omega, show (j + 1074).toNat = (j - min i j).toNat + (min i j + 1074).toNat from by omega, signed_up, signed_up, compare_up]

theorem key_zero : key 0 = 0 := by unfold key; rw [read_zero]; rfl
theorem key_hundred : 0 < key 4636737291354636288 := by
  have : Ieee.double.read 4636737291354636288 = .number false 7036874417766400 (-46) := by decide +kernel
  unfold key
  rw [this]
  simp only [wval, Ieee.signed, Nat.shiftLeft_eq]
  have : 0 < 7036874417766400 * 2 ^ ((-46 : Int) + 1074).toNat := Nat.mul_pos (by omega) (Nat.two_pow_pos _)
  simp only [Bool.false_eq_true, if_false]
  omega
/-- No word is below 0 and above 100. -/
theorem not_both (b : Nat) : ¬ (ord b 0 = some .lt ∧ ord b 4636737291354636288 = some .gt) := by
  rintro ⟨h1, h2⟩
  cases h : isN b with
  | true => rw [ord_nan_l b 0 h] at h1; cases h1
  | false =>
    rw [ord_key b 0 h (by decide), key_zero] at h1
    rw [ord_key b _ h (by decide)] at h2
    have hk := key_hundred
    injection h1 with h1
    injection h2 with h2
    have e1 := Int.compare_eq_lt.1 h1
    have e2 := Int.compare_eq_gt.1 h2
    omega

end Go.Proofs.YtfeajbaaoflfeaaDoor.Mk
