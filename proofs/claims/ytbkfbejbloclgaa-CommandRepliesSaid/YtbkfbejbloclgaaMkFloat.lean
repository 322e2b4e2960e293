/-
  Plain mathematics of marks: which words are no number, how words stand to each other, the word as which one counts. It imports nothing of the program.
-/
import Derived.Laws.FloatArith
namespace Go.Proofs.Ytbkfbejbloclgaa.Mk
open Ieee (Datum Format)

/-- Is the word no number? -/
def isN (b : Nat) : Bool := decide (9218868437227405312 < b % 9223372036854775808)
/-- No mark. -/
def NM : Nat := 9221120237041090561
/-- As which word one counts. -/
def canon (b : Nat) : Nat := if isN b then NM else if b = 9223372036854775808 then 0 else b

theorem fmt : FloatKind.f64.format = Ieee.double := rfl
theorem sw : Ieee.double.signWeight = 9223372036854775808 := by decide
theorem bin : Ieee.double.binade = 4503599627370496 := by decide
theorem infr : Ieee.double.infRung = 9218868437227405312 := by decide
theorem lp : Ieee.double.leastPlace = -1074 := by decide

theorem read_nan (b : Nat) : (Ieee.double.read b).isNaN = isN b := by
  unfold Format.read isN
  simp only [sw, bin, infr]
  have hm := Nat.mod_lt b (show 9223372036854775808 > 0 by omega)
  generalize b % 9223372036854775808 = r at *
  split
  · simp [Datum.isNaN]; omega
  · split
    · simp [Datum.isNaN]; omega
    · split
      · simp [Datum.isNaN]; omega
      · simp [Datum.isNaN]; omega

/-- How two words stand to each other. -/
def ord (a b : Nat) : Option Ordering := FloatKind.f64.format.order a b

theorem compare_self (z : Int) : compare z z = .eq := by simp
theorem ord_nan_l (a b : Nat) (h : isN a = true) : ord a b = none := by
  rw [← read_nan] at h
  unfold ord
  rw [fmt]
  unfold Format.order
  cases e : Ieee.double.read a with
  | nan s t => rfl
  | number s m i => rw [e] at h; cases h
  | infinity s => rw [e] at h; cases h
theorem ord_nan_r (a b : Nat) (h : isN b = true) : ord a b = none := by
  rw [← read_nan] at h
  unfold ord
  rw [fmt]
  unfold Format.order
  cases e : Ieee.double.read b with
  | nan s t => cases Ieee.double.read a <;> rfl
  | number s m i => rw [e] at h; cases h
  | infinity s => rw [e] at h; cases h
theorem ord_self (a : Nat) (h : isN a = false) : ord a a = some .eq := by
  rw [← read_nan] at h
  unfold ord
  rw [fmt]
  unfold Format.order
  cases e : Ieee.double.read a with
  | nan s t => rw [e] at h; cases h
  | number s m i => simp [Datum.order]
  | infinity s => simp [Datum.order]
/-- 'f != f' is what tells that f is no number. -/
theorem neq_self (a : Nat) : (ord a a != some .eq) = isN a := by
  cases h : isN a with
  | true => rw [ord_nan_l a a h]; rfl
  | false => rw [ord_self a h]; rfl
theorem signed_zero (s : Bool) (m k : Nat) : Ieee.signed s m k = 0 ↔ m = 0 := by
  unfold Ieee.signed
  rw [Nat.shiftLeft_eq]
  have hp : 0 < 2 ^ k := Nat.two_pow_pos k
  constructor
  · intro h
    have : m * 2 ^ k = 0 := by split at h <;> omega
    rcases Nat.mul_eq_zero.1 this with h | h
    · exact h
    · omega
  · rintro rfl; simp
theorem read_zero : Ieee.double.read 0 = .number false 0 (-1074) := by decide
/-- 'f == 0' of the two zeros alone. -/
theorem eq_zero (a : Nat) (ha : a < 18446744073709551616) : (ord a 0 == some .eq) = decide (a = 0 ∨ a = 9223372036854775808) := by
  unfold ord
  rw [fmt]
  unfold Format.order
  rw [read_zero]
  unfold Format.read
  simp only [sw, bin, infr]
  have hm := Nat.mod_lt a (show 9223372036854775808 > 0 by omega)
  have hiff : (a = 0 ∨ a = 9223372036854775808) ↔ a % 9223372036854775808 = 0 := by omega
  simp only [hiff]
  generalize a % 9223372036854775808 = r at *
  generalize (a / 9223372036854775808 % 2 == 1) = s
  have num : ∀ (m : Nat) (i : Int), (Datum.order (.number s m i) (.number false 0 (-1074)) == some .eq) = decide (m = 0) := by
    intro m i
    have h0 : Ieee.signed false 0 (-1074 - min i (-1074)).toNat = 0 := (signed_zero _ _ _).2 rfl
    simp only [Datum.order, h0]
    by_cases hz : m = 0
    · have : Ieee.signed s m (i - min i (-1074)).toNat = 0 := (signed_zero _ _ _).2 hz
      rw [this]; simp [hz]
    · have : Ieee.signed s m (i - min i (-1074)).toNat ≠ 0 := fun h => hz ((signed_zero _ _ _).1 h)
      simp [hz, this]
  split
  · rw [num]
  · split
    · rw [num]
      simp; omega
    · split
      · cases s <;> simp [Datum.order] <;> omega
      · simp [Datum.order]; omega
theorem isN_NM : isN NM = true := by decide
theorem canon_idem (b : Nat) : canon (canon b) = canon b := by
  unfold canon
  by_cases h : isN b = true
  · rw [if_pos h, if_pos isN_NM]
  · rw [if_neg h]
    by_cases h2 : b = 9223372036854775808
    · rw [if_pos h2, if_neg (by decide), if_neg (by decide)]
    · rw [if_neg h2, if_neg h, if_neg h2]
theorem canon_lt (b : Nat) (h : b < 18446744073709551616) : canon b < 18446744073709551616 := by
  unfold canon NM
  split
  · omega
  · split <;> omega

/-- By the masks of the document's plain answer. -/
theorem mask_exp (b : Nat) : b &&& 9218868437227405312 = (b / 4503599627370496 % 2048) * 4503599627370496 := by
  apply Nat.eq_of_testBit_eq
  intro i
  rw [show (9218868437227405312 : Nat) = (2 ^ 11 - 1) * 2 ^ 52 from by decide, show (4503599627370496 : Nat) = 2 ^ 52 from by decide, show (2048 : Nat) = 2 ^ 11 from by decide]
  rw [Nat.testBit_and, Nat.testBit_mul_two_pow, Nat.testBit_mul_two_pow, Nat.testBit_two_pow_sub_one, Nat.testBit_mod_two_pow, Nat.testBit_div_two_pow]
  by_cases h : 52 ≤ i
  · rw [show i - 52 + 52 = i from by omega]
    simp [h, Bool.and_comm]
  · simp [h]
theorem mask_frac (b : Nat) : b &&& 4503599627370495 = b % 4503599627370496 := by
  rw [show (4503599627370495 : Nat) = 2 ^ 52 - 1 from by decide, Nat.and_two_pow_sub_one_eq_mod]
theorem isN_masks (b : Nat) : isN b = (decide (b / 4503599627370496 % 2048 = 2047) && decide (b % 4503599627370496 ≠ 0)) := by
  unfold isN
  rw [Bool.eq_iff_iff]
  simp only [decide_eq_true_eq, Bool.and_eq_true]
  omega

end Go.Proofs.Ytbkfbejbloclgaa.Mk
