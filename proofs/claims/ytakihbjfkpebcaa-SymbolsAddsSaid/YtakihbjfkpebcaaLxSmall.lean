/-
  The walks of lex's small functions: letter, inName, plain, among, measure; the plain ones, too.
-/
import Derived.Test.YtakihbjfkpebcaaChecked
import Derived.Test.YtakihbjfkpebcaaShelf
import Derived.Lib.Hide
import Derived.Lib.IndexBytes
import Derived.Below
namespace Go.Proofs.Ytakihbjfkpebcaa.Lx
open Go.RowKit
set_option maxRecDepth 100000

/-- The bytes of a string. -/
abbrev bs (s : ByteArray) : List UInt8 := s.data.toList

def letterN (c : Nat) : Bool := decide (97 ≤ c ∧ c ≤ 122 ∨ 65 ≤ c ∧ c ≤ 90)
def nameN (c : Nat) : Bool := decide (97 ≤ c ∧ c ≤ 122 ∨ 65 ≤ c ∧ c ≤ 90 ∨ 48 ≤ c ∧ c ≤ 57 ∨ c = 95 ∨ c = 45)
def plainN (c : Nat) : Bool := decide (32 ≤ c ∧ c ≤ 126)

theorem letter_any (c : Nat) (w : World) :
    Calls Try.prog 59 #[.int .u8 c] w fun e w' => e = .returned (.bool (letterN c)) ∧ w = w' := by
  go_enter Try.func59, Try.ntmps59
  go_wp2
  all_goals (go_ret; refine ⟨congrArg (fun b => Ending.returned (Value.bool b)) (?_ : _ = letterN c), rfl⟩; rw [Bool.eq_iff_iff]; simp [letterN]; omega)

theorem plain_any (c : Nat) (w : World) :
    Calls Try.prog 84 #[.int .u8 c] w fun e w' => e = .returned (.bool (plainN c)) ∧ w = w' := by
  go_enter Try.func84, Try.ntmps84
  go_wp2
  all_goals (go_ret; refine ⟨congrArg (fun b => Ending.returned (Value.bool b)) (?_ : _ = plainN c), rfl⟩; rw [Bool.eq_iff_iff]; simp [plainN]; omega)

theorem inName_any (c : Nat) (w : World) :
    Calls Try.prog 82 #[.int .u8 c] w fun e w' => e = .returned (.bool (nameN c)) ∧ w = w' := by
  have K1 := Lib.hid (letter_any c)
  go_enter Try.func82, Try.ntmps82
  go_wp2_with fail
  refine (K1.out _).mono ?_
  rintro e w1 ⟨rfl, rfl⟩
  cases hl : letterN c <;> simp only [letterN, decide_eq_true_eq, decide_eq_false_iff_not] at hl
  all_goals go_wp2
  all_goals (go_ret; refine ⟨congrArg (fun b => Ending.returned (Value.bool b)) (?_ : _ = nameN c), rfl⟩; rw [Bool.eq_iff_iff]; simp [nameN]; omega)

theorem among_any (c : Nat) (s : ByteArray) (w : World) :
    Calls Try.prog 63 #[.int .u8 c, .string s] w fun e w' => e = .returned (.bool (decide (0 ≤ Lib.indexByte (bs s) ((c : Int).toNat.toUInt8)))) ∧ w = w' := by
  have K1 := Lib.hid (Try.strings_IndexByte s c)
  go_enter Try.func63, Try.ntmps63
  go_wp2_with fail
  refine (K1.out _).mono ?_
  rintro e w1 ⟨rfl, rfl⟩
  go_wp2
  go_ret
  exact ⟨rfl, rfl⟩

theorem measure_any (s : ByteArray) (m : Nat) (w : World) :
    Calls Try.prog 62 #[.string s, .int .i64 m] w fun e w' => e = .returned (.int .i64 (if s.size = 0 then 2 else if m < s.size then 6 else 0)) ∧ w = w' := by
  by_cases h0 : s.size = 0
  · rw [if_pos h0]
    have hs : s = ⟨#[]⟩ := by
      apply ByteArray.ext; exact Array.eq_empty_of_size_eq_zero h0
    subst hs
    go_enter Try.func62, Try.ntmps62
    go_wp2
    go_ret
    exact ⟨rfl, rfl⟩
  · rw [if_neg h0]
    have hs : s.toList.isEmpty = false := by
      rw [Lib.toList_data]
      cases hl : s.data.toList with
      | nil => exact absurd (show s.size = 0 from by rw [← ByteArray.size_data, ← Array.length_toList, hl]; rfl) h0
      | cons => rfl
    by_cases h1 : m < s.size
    · rw [if_pos h1]
      go_enter Try.func62, Try.ntmps62
      go_wp2
      go_ret
      exact ⟨rfl, rfl⟩
    · rw [if_neg h1]
      go_enter Try.func62, Try.ntmps62
      go_wp2
      go_ret
      exact ⟨rfl, rfl⟩

end Go.Proofs.Ytakihbjfkpebcaa.Lx
