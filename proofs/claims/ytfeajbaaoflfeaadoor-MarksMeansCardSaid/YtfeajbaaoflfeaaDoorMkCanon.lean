/-
  The walks of Canon, Clamp and what they call, the code's and the document's plain ones.
-/
import Derived.Test.YtfeajbaaoflfeaaDoorMkFloat
import Derived.Test.YtfeajbaaoflfeaaDoorMkBits
import Derived.WalkLawsBesides
namespace Go.Proofs.YtfeajbaaoflfeaaDoor.Mk
open Go.RowKit

theorem isnan_any (b : Nat) (w : World) : Calls Tryd.prog 32 #[.float .f64 b] w fun e w' => e = .returned (.bool (isN b)) ∧ w = w' := by
  have h := neq_self b
  unfold ord at h
  obtain ⟨t, ht⟩ : ∃ t, isN b = t := ⟨_, rfl⟩
  rw [ht] at h ⊢
  clear ht
  go_enter Tryd.func32, Tryd.ntmps32
  go_wp2
  go_ret
  exact ⟨rfl, rfl⟩
theorem none_any (w : World) : Calls Tryd.prog 33 #[] w fun e w' => e = .returned (.float .f64 NM) ∧ w = w' := by
  have h : ∀ W : World, (callFunc 9 #[.int .u64 9221120237041090561]).run Tryd.prog W = .ok (.value (.float .f64 NM)) W := fun W => mfrom 9221120237041090561 W
  go_enter Tryd.func33, Tryd.ntmps33
  go_wp2
  go_ret
  exact ⟨rfl, rfl⟩
theorem rnone_any (w : World) : Calls Tryd.prog 35 #[] w fun e w' => e = .returned (.float .f64 NM) ∧ w = w' := by
  have h : ∀ W : World, (callFunc 9 #[.int .u64 9221120237041090561]).run Tryd.prog W = .ok (.value (.float .f64 NM)) W := fun W => mfrom 9221120237041090561 W
  go_enter Tryd.func35, Tryd.ntmps35
  go_wp2
  go_ret
  exact ⟨rfl, rfl⟩
theorem rnan_any (b : Nat) (hb : b < 18446744073709551616) (w : World) : Calls Tryd.prog 34 #[.float .f64 b] w fun e w' => e = .returned (.bool (isN b)) ∧ w = w' := by
  have hbits := mbits b
  have h1 := u64_and_nat b 9218868437227405312 hb (by omega)
  have h2 := u64_and_nat b 4503599627370495 hb (by omega)
  rw [mask_exp] at h1
  rw [mask_frac] at h2
  have h1' : bits .and .u64 (b : Int) 9218868437227405312 = ((b / 4503599627370496 % 2048 * 4503599627370496 : Nat) : Int) := h1
  have h2' : bits .and .u64 (b : Int) 4503599627370495 = ((b % 4503599627370496 : Nat) : Int) := h2
  clear h1 h2
  rw [isN_masks]
  by_cases e1 : b / 4503599627370496 % 2048 = 2047
  · have e1' : bits .and .u64 (b : Int) 9218868437227405312 = 9218868437227405312 := by rw [h1', e1]; rfl
    clear h1'
    have t1 : decide (b / 4503599627370496 % 2048 = 2047) = true := by simpa using e1
    rw [t1, Bool.true_and]
    obtain ⟨r, hr⟩ : ∃ r, r = b % 4503599627370496 := ⟨_, rfl⟩
    rw [← hr] at h2' ⊢
    clear hr t1 e1
    by_cases e2 : r = 0
    · subst e2
      go_enter Tryd.func34, Tryd.ntmps34
      go_wp2
      go_ret
      exact ⟨rfl, rfl⟩
    · have t2 : ((r : Int) != 0) = true := by rw [bne_iff_ne]; omega
      have t3 : ((r : Int) == 0) = false := by rw [beq_eq_false_iff_ne]; omega
      have t4 : decide (r ≠ 0) = true := by simpa using e2
      rw [t4]
      clear e2 t4
      go_enter Tryd.func34, Tryd.ntmps34
      go_wp2
      go_ret
      exact ⟨rfl, rfl⟩
  · obtain ⟨r, hr⟩ : ∃ r : Int, r = ((b / 4503599627370496 % 2048 * 4503599627370496 : Nat) : Int) := ⟨_, rfl⟩
    have t1 : (r == 9218868437227405312) = false := by rw [beq_eq_false_iff_ne, hr]; omega
    rw [← hr] at h1'
    have t2 : decide (b / 4503599627370496 % 2048 = 2047) = false := by simpa using e1
    rw [t2, Bool.false_and]
    clear hr e1 t2 h2'
    go_enter Tryd.func34, Tryd.ntmps34
    go_wp2
    go_ret
    exact ⟨rfl, rfl⟩

theorem canon_any (b : Nat) (hb : b < 18446744073709551616) (w : World) : Calls Tryd.prog 13 #[.float .f64 b] w fun e w' => e = .returned (.float .f64 (canon b)) ∧ w = w' := by
  have hz := eq_zero b hb
  unfold ord at hz
  have K := Lib.hid (isnan_any b w)
  cases h : isN b with
  | true =>
    rw [h] at K
    have hc : canon b = NM := by rw [canon, if_pos h]
    rw [hc]
    clear h hc hz
    go_enter Tryd.func13, Tryd.ntmps13
    go_wp2_with fail
    refine K.out.mono ?_
    rintro e w1 ⟨rfl, rfl⟩
    go_wp2_with fail
    refine (none_any _).mono ?_
    rintro e w1 ⟨rfl, rfl⟩
    go_wp2
    go_ret
    exact ⟨rfl, rfl⟩
  | false =>
    rw [h] at K
    by_cases h0 : b = 0 ∨ b = 9223372036854775808
    · have hc : canon b = 0 := by
        rw [canon, h, if_neg (by decide)]
        rcases h0 with rfl | rfl
        · rfl
        · rfl
      rw [hc]
      have hz' : (FloatKind.f64.format.order b 0 == some .eq) = true := by rw [hz]; simpa using h0
      clear h h0 hc hz
      go_enter Tryd.func13, Tryd.ntmps13
      go_wp2_with fail
      refine K.out.mono ?_
      rintro e w1 ⟨rfl, rfl⟩
      go_wp2
      go_ret
      exact ⟨rfl, rfl⟩
    · have hc : canon b = b := by
        rw [canon, h, if_neg (by decide), if_neg (fun h1 => h0 (.inr h1))]
      rw [hc]
      have hz' : (FloatKind.f64.format.order b 0 == some .eq) = false := by rw [hz]; simpa using h0
      clear h h0 hc hz
      go_enter Tryd.func13, Tryd.ntmps13
      go_wp2_with fail
      refine K.out.mono ?_
      rintro e w1 ⟨rfl, rfl⟩
      go_wp2
      go_ret
      exact ⟨rfl, rfl⟩

theorem rcanon_any (b : Nat) (hb : b < 18446744073709551616) (w : World) : Calls Tryd.prog 14 #[.float .f64 b] w fun e w' => e = .returned (.float .f64 (canon b)) ∧ w = w' := by
  have hbits := mbits b
  have K := Lib.hid (rnan_any b hb w)
  cases h : isN b with
  | true =>
    rw [h] at K
    have hc : canon b = NM := by rw [canon, if_pos h]
    rw [hc]
    clear h hc
    go_enter Tryd.func14, Tryd.ntmps14
    go_wp2_with fail
    refine K.out.mono ?_
    rintro e w1 ⟨rfl, rfl⟩
    go_wp2_with fail
    refine (rnone_any _).mono ?_
    rintro e w1 ⟨rfl, rfl⟩
    go_wp2
    go_ret
    exact ⟨rfl, rfl⟩
  | false =>
    rw [h] at K
    by_cases h0 : b = 9223372036854775808
    · have hc : canon b = 0 := by rw [canon, h, if_neg (by decide), if_pos h0]
      rw [hc]
      have hz' : ((b : Int) == 9223372036854775808) = true := by rw [beq_iff_eq]; omega
      clear h h0 hc
      go_enter Tryd.func14, Tryd.ntmps14
      go_wp2_with fail
      refine K.out.mono ?_
      rintro e w1 ⟨rfl, rfl⟩
      go_wp2
      go_ret
      exact ⟨rfl, rfl⟩
    · have hc : canon b = b := by rw [canon, h, if_neg (by decide), if_neg h0]
      rw [hc]
      have hz' : ((b : Int) == 9223372036854775808) = false := by rw [beq_eq_false_iff_ne]; omega
      clear h h0 hc
      go_enter Tryd.func14, Tryd.ntmps14
      go_wp2_with fail
      refine K.out.mono ?_
      rintro e w1 ⟨rfl, rfl⟩
      go_wp2
      go_ret
      exact ⟨rfl, rfl⟩

/-- The word 100. -/
def H : Nat := 4636737291354636288
/-- Into 0 to 100. -/
def clamp (b : Nat) : Nat := if ord b 0 = some .lt then 0 else if ord b H = some .gt then H else canon b

theorem clamp_any (b : Nat) (hb : b < 18446744073709551616) (w : World) : Calls Tryd.prog 16 #[.float .f64 b] w fun e w' => e = .returned (.float .f64 (clamp b)) ∧ w = w' := by
  have K := Lib.hid (canon_any b hb w)
  by_cases h1 : ord b 0 = some .lt
  · have t1 : (FloatKind.f64.format.order b 0 == some .lt) = true := by rw [beq_iff_eq]; exact h1
    have hc : clamp b = 0 := by rw [clamp, if_pos h1]
    rw [hc]
    clear h1 hc
    go_enter Tryd.func16, Tryd.ntmps16
    go_wp2
    go_ret
    exact ⟨rfl, rfl⟩
  · have t1 : (FloatKind.f64.format.order b 0 == some .lt) = false := by rw [beq_eq_false_iff_ne]; exact h1
    by_cases h2 : ord b H = some .gt
    · have t2 : (FloatKind.f64.format.order b 4636737291354636288 == some .gt) = true := by rw [beq_iff_eq]; exact h2
      have hc : clamp b = H := by rw [clamp, if_neg h1, if_pos h2]
      rw [hc]
      clear h1 h2 hc
      go_enter Tryd.func16, Tryd.ntmps16
      go_wp2
      go_ret
      exact ⟨rfl, rfl⟩
    · have t2 : (FloatKind.f64.format.order b 4636737291354636288 == some .gt) = false := by rw [beq_eq_false_iff_ne]; exact h2
      have hc : clamp b = canon b := by rw [clamp, if_neg h1, if_neg h2]
      rw [hc]
      clear h1 h2 hc
      go_enter Tryd.func16, Tryd.ntmps16
      go_wp2_with fail
      refine K.out.mono ?_
      rintro e w1 ⟨rfl, rfl⟩
      go_wp2
      go_ret
      exact ⟨rfl, rfl⟩

theorem rclamp_any (b : Nat) (hb : b < 18446744073709551616) (w : World) (hno : ¬ (ord b 0 = some .lt ∧ ord b H = some .gt)) : Calls Tryd.prog 17 #[.float .f64 b] w fun e w' => e = .returned (.float .f64 (clamp b)) ∧ w = w' := by
  have K := Lib.hid (rcanon_any b hb w)
  have KN := Lib.hid (rnan_any b hb w)
  cases h : isN b with
  | true =>
    rw [h] at KN
    have hc : clamp b = NM := by rw [clamp, ord_nan_l b 0 h, ord_nan_l b H h, if_neg (by decide), if_neg (by decide), canon, if_pos h]
    rw [hc]
    clear h hc hno
    go_enter Tryd.func17, Tryd.ntmps17
    go_wp2_with fail
    refine KN.out.mono ?_
    rintro e w1 ⟨rfl, rfl⟩
    go_wp2_with fail
    refine (rnone_any _).mono ?_
    rintro e w1 ⟨rfl, rfl⟩
    go_wp2
    go_ret
    exact ⟨rfl, rfl⟩
  | false =>
    rw [h] at KN
    clear h
    by_cases h2 : ord b H = some .gt
    · have h1 : ¬ ord b 0 = some .lt := fun h1 => hno ⟨h1, h2⟩
      have t2 : (FloatKind.f64.format.order b 4636737291354636288 == some .gt) = true := by rw [beq_iff_eq]; exact h2
      have hc : clamp b = H := by rw [clamp, if_neg h1, if_pos h2]
      rw [hc]
      clear h1 h2 hc hno
      go_enter Tryd.func17, Tryd.ntmps17
      go_wp2_with fail
      refine KN.out.mono ?_
      rintro e w1 ⟨rfl, rfl⟩
      go_wp2
      go_ret
      exact ⟨rfl, rfl⟩
    · have t2 : (FloatKind.f64.format.order b 4636737291354636288 == some .gt) = false := by rw [beq_eq_false_iff_ne]; exact h2
      by_cases h1 : ord b 0 = some .lt
      · have t1 : (FloatKind.f64.format.order b 0 == some .lt) = true := by rw [beq_iff_eq]; exact h1
        have hc : clamp b = 0 := by rw [clamp, if_pos h1]
        rw [hc]
        clear h1 h2 hc hno
        go_enter Tryd.func17, Tryd.ntmps17
        go_wp2_with fail
        refine KN.out.mono ?_
        rintro e w1 ⟨rfl, rfl⟩
        go_wp2
        go_ret
        exact ⟨rfl, rfl⟩
      · have t1 : (FloatKind.f64.format.order b 0 == some .lt) = false := by rw [beq_eq_false_iff_ne]; exact h1
        have hc : clamp b = canon b := by rw [clamp, if_neg h1, if_neg h2]
        rw [hc]
        clear h1 h2 hc hno
        go_enter Tryd.func17, Tryd.ntmps17
        go_wp2_with fail
        refine KN.out.mono ?_
        rintro e w1 ⟨rfl, rfl⟩
        go_wp2_with fail
        refine K.out.mono ?_
        rintro e w1 ⟨rfl, rfl⟩
        go_wp2
        go_ret
        exact ⟨rfl, rfl⟩

end Go.Proofs.YtfeajbaaoflfeaaDoor.Mk
