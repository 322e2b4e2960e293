/-
  Layer 21: Good, the program's.
-/
import Derived.Test.YtbkfbejbloclgaaCmA
import Derived.IntWalk
namespace Go.Proofs.Ytbkfbejbloclgaa.Cm
open Go.RowKit
open Oct (pb bs Strs)
open Lx (goodB)
set_option maxRecDepth 100000
set_option linter.unusedSimpArgs false
set_option linter.unusedVariables false
def wideB (s : ByteArray) : Bool := decide (16 < s.size)
theorem wide_any (s : ByteArray) (w : World) : Calls Try.prog 28 #[.string s] w fun e w' => e = .returned (.bool (wideB s)) ∧ w = w' := by
  obtain ⟨q, hq⟩ : ∃ q, q = wideB s := ⟨_, rfl⟩
  have HQ := Lib.hid hq
  rw [← hq]
  unfold wideB at hq
  by_cases h : 16 < s.size
  · have h2 : (16 : Int) < (s.size : Int) := by omega
    rw [decide_eq_true h] at hq
    subst hq
    go_enter Try.func28, Try.ntmps28
    go_wp2
    go_ret
    exact ⟨rfl, rfl⟩
  · have h2 : ¬ (16 : Int) < (s.size : Int) := by omega
    rw [decide_eq_false h] at hq
    subst hq
    go_enter Try.func28, Try.ntmps28
    go_wp2
    go_ret
    exact ⟨rfl, rfl⟩
theorem far_any (n : Int) (w : World) : Calls Try.prog 29 #[.int .i64 n] w fun e w' => e = .returned (.bool (farB n)) ∧ w = w' := by
  obtain ⟨q, hq⟩ : ∃ q, q = farB n := ⟨_, rfl⟩
  rw [← hq]
  unfold farB at hq
  by_cases h : n < -9007199254740992
  · rw [decide_eq_true h] at hq
    subst hq
    go_enter Try.func29, Try.ntmps29
    go_wp2
    go_ret
    exact ⟨rfl, rfl⟩
  · rw [decide_eq_false h] at hq
    by_cases h2 : 9007199254740992 < n
    · rw [decide_eq_true h2] at hq
      subst hq
      go_enter Try.func29, Try.ntmps29
      go_wp2
      go_ret
      exact ⟨rfl, rfl⟩
    · rw [decide_eq_false h2] at hq
      subst hq
      go_enter Try.func29, Try.ntmps29
      go_wp2
      go_ret
      exact ⟨rfl, rfl⟩

set_option maxHeartbeats 2000000 in
theorem idxS (a : Option Addr) (n cap : Nat) (ss : List ByteArray) (w : World) (h : Strs w a n ss) (hl : ss.length = n) (hn : n ≤ 65536) :
    Calls Try.prog 61 #[.slice a n cap, .func (.func 28) #[] #[]] w fun e w' => ∃ r : Int, e = .returned (.int .i64 r) ∧ w = w' ∧ decide (0 ≤ r) = ss.any wideB := by
  have H := Lib.hid h
  have HL := Lib.hid hl
  have hall0 : ∀ k, k < 0 → ∀ (h : k < ss.length), wideB ss[k] = false := fun k h => absurd h (by omega)
  have HA0 := Lib.hid hall0
  clear h hall0 hl
  go_enter Try.func61, Try.ntmps61
  go_upto_block 0 with fail
  go_wp2_with fail
  go_loopw [8] (fun i wr => ∃ k : Nat, i = .int .i64 k ∧ k ≤ n ∧ wr = w ∧ ∀ j, j < k → ∀ (h : j < ss.length), wideB ss[j] = false) (fun i _ => n - (intOf i).toNat)
  case atStart => exact ⟨0, rfl, Nat.zero_le _, rfl, HA0.out⟩
  case round =>
    obtain ⟨k, rfl, hk, rfl, hall⟩ := hrel
    have HALL := Lib.hid hall
    clear hall
    have hw1 : IntKind.i64.wrap ((k : Int) + 1) = ((k + 1 : Nat) : Int) := IntWalk.i64_in _ (by omega)
    by_cases hlt : k < n
    · have hlt2 : (k : Int) < (n : Int) := by omega
      have hks : k < ss.length := by rw [HL.out]; exact hlt
      obtain ⟨b, off, rfl, hbb, hc⟩ := Strs.get H.out k hlt
      obtain ⟨x, hx⟩ : ∃ x, x = ss[k] := ⟨_, rfl⟩
      rw [← hx] at hc
      have HX := Lib.hid hx
      clear hx
      cases hb : wideB x with
      | true =>
        have HP := Lib.hid (show ss.any wideB = true from List.any_eq_true.2 ⟨ss[k], List.getElem_mem _, by rw [← HX.out]; exact hb⟩)
        have HC := Lib.hid (show Calls Try.prog 28 #[.string x] wr fun e w' => e = .returned (.bool true) ∧ wr = w' by rw [← hb]; exact wide_any x wr)
        clear hb
        go_wp2_with fail
        refine HC.out.mono ?_
        rintro e w' ⟨rfl, rfl⟩
        go_wp2_with fail
        go_ret
        exact ⟨_, rfl, rfl, by rw [HP.out]; exact decide_eq_true (by omega)⟩
      | false =>
        have HN := Lib.hid (show ∀ j, j < k + 1 → ∀ (h : j < ss.length), wideB ss[j] = false from fun j hj h => by
          by_cases hjk : j = k
          · subst hjk; rw [← HX.out]; exact hb
          · exact HALL.out j (by omega) h)
        have HC := Lib.hid (show Calls Try.prog 28 #[.string x] wr fun e w' => e = .returned (.bool false) ∧ wr = w' by rw [← hb]; exact wide_any x wr)
        clear hb
        go_wp2_with fail
        refine HC.out.mono ?_
        rintro e w' ⟨rfl, rfl⟩
        go_wp2_with fail
        refine ⟨⟨k + 1, by go_num, by omega, by trivial, HN.out⟩, by simp [intOf]; omega⟩
    · have hke : k = n := by omega
      subst hke
      have HP := Lib.hid (show ss.any wideB = false from by
        rw [Bool.eq_false_iff]
        intro h
        obtain ⟨y, hy, hy2⟩ := List.any_eq_true.1 h
        obtain ⟨j, hj, rfl⟩ := List.getElem_of_mem hy
        rw [HALL.out j (by rw [← HL.out]; exact hj) hj] at hy2
        cases hy2)
      go_wp2_with fail
      go_ret
      exact ⟨_, rfl, rfl, by rw [HP.out]; decide⟩

theorem hasS (a : Option Addr) (n cap : Nat) (ss : List ByteArray) (w : World) (h : Strs w a n ss) (hl : ss.length = n) (hn : n ≤ 65536) :
    Calls Try.prog 32 #[.slice a n cap, .func (.func 28) #[] #[]] w fun e w' => e = .returned (.bool (ss.any wideB)) ∧ w = w' := by
  have H := Lib.hid (idxS a n cap ss w h hl hn)
  obtain ⟨q, hq⟩ : ∃ q, q = ss.any wideB := ⟨_, rfl⟩
  rw [← hq] at H ⊢
  clear hq h hl
  go_enter Try.func32, Try.ntmps32
  go_wp2_with fail
  refine H.out.mono ?_
  rintro e w' ⟨r, rfl, rfl, hr⟩
  have HR := Lib.hid hr
  clear hr
  go_wp2_with fail
  go_ret
  exact ⟨by rw [← HR.out]; rfl, rfl⟩

set_option maxHeartbeats 2000000 in
theorem idxI (b off n cap : Nat) (ss : List Int) (w : World) (h : ∀ i (h : i < ss.length), w.cell? ⟨b, off + i, none⟩ = some (.int .i64 ss[i])) (hl : ss.length = n) (hn : n ≤ 65536) :
    Calls Try.prog 62 #[.slice (some ⟨b, off, none⟩) n cap, .func (.func 29) #[] #[]] w fun e w' => ∃ r : Int, e = .returned (.int .i64 r) ∧ w = w' ∧ decide (0 ≤ r) = ss.any farB := by
  have H := Lib.hid h
  have HL := Lib.hid hl
  have hall0 : ∀ k, k < 0 → ∀ (h : k < ss.length), farB ss[k] = false := fun k h => absurd h (by omega)
  have HA0 := Lib.hid hall0
  clear h hall0 hl
  go_enter Try.func62, Try.ntmps62
  go_upto_block 0 with fail
  go_wp2_with fail
  go_loopw [8] (fun i wr => ∃ k : Nat, i = .int .i64 k ∧ k ≤ n ∧ wr = w ∧ ∀ j, j < k → ∀ (h : j < ss.length), farB ss[j] = false) (fun i _ => n - (intOf i).toNat)
  case atStart => exact ⟨0, rfl, Nat.zero_le _, rfl, HA0.out⟩
  case round =>
    obtain ⟨k, rfl, hk, rfl, hall⟩ := hrel
    have HALL := Lib.hid hall
    clear hall
    have hw1 : IntKind.i64.wrap ((k : Int) + 1) = ((k + 1 : Nat) : Int) := IntWalk.i64_in _ (by omega)
    by_cases hlt : k < n
    · have hlt2 : (k : Int) < (n : Int) := by omega
      have hks : k < ss.length := by rw [HL.out]; exact hlt
      have hc := H.out k hks
      obtain ⟨x, hx⟩ : ∃ x, x = ss[k] := ⟨_, rfl⟩
      rw [← hx] at hc
      have HX := Lib.hid hx
      clear hx
      cases hb : farB x with
      | true =>
        have HP := Lib.hid (show ss.any farB = true from List.any_eq_true.2 ⟨ss[k], List.getElem_mem _, by rw [← HX.out]; exact hb⟩)
        have HC := Lib.hid (show Calls Try.prog 29 #[.int .i64 x] wr fun e w' => e = .returned (.bool true) ∧ wr = w' by rw [← hb]; exact far_any x wr)
        clear hb
        go_wp2_with fail
        refine HC.out.mono ?_
        rintro e w' ⟨rfl, rfl⟩
        go_wp2_with fail
        go_ret
        exact ⟨_, rfl, rfl, by rw [HP.out]; exact decide_eq_true (by omega)⟩
      | false =>
        have HN := Lib.hid (show ∀ j, j < k + 1 → ∀ (h : j < ss.length), farB ss[j] = false from fun j hj h => by
          by_cases hjk : j = k
          · subst hjk; rw [← HX.out]; exact hb
          · exact HALL.out j (by omega) h)
        have HC := Lib.hid (show Calls Try.prog 29 #[.int .i64 x] wr fun e w' => e = .returned (.bool false) ∧ wr = w' by rw [← hb]; exact far_any x wr)
        clear hb
        go_wp2_with fail
        refine HC.out.mono ?_
        rintro e w' ⟨rfl, rfl⟩
        go_wp2_with fail
        refine ⟨⟨k + 1, by go_num, by omega, by trivial, HN.out⟩, by simp [intOf]; omega⟩
    · have hke : k = n := by omega
      subst hke
      have HP := Lib.hid (show ss.any farB = false from by
        rw [Bool.eq_false_iff]
        intro h
        obtain ⟨y, hy, hy2⟩ := List.any_eq_true.1 h
        obtain ⟨j, hj, rfl⟩ := List.getElem_of_mem hy
        rw [HALL.out j (by rw [← HL.out]; exact hj) hj] at hy2
        cases hy2)
      go_wp2_with fail
      go_ret
      exact ⟨_, rfl, rfl, by rw [HP.out]; decide⟩

theorem hasI (b off n cap : Nat) (ss : List Int) (w : World) (h : ∀ i (h : i < ss.length), w.cell? ⟨b, off + i, none⟩ = some (.int .i64 ss[i])) (hl : ss.length = n) (hn : n ≤ 65536) :
    Calls Try.prog 33 #[.slice (some ⟨b, off, none⟩) n cap, .func (.func 29) #[] #[]] w fun e w' => e = .returned (.bool (ss.any farB)) ∧ w = w' := by
  have H := Lib.hid (idxI b off n cap ss w h hl hn)
  obtain ⟨q, hq⟩ : ∃ q, q = ss.any farB := ⟨_, rfl⟩
  rw [← hq] at H ⊢
  clear hq h hl
  go_enter Try.func33, Try.ntmps33
  go_wp2_with fail
  refine H.out.mono ?_
  rintro e w' ⟨r, rfl, rfl, hr⟩
  have HR := Lib.hid hr
  clear hr
  go_wp2_with fail
  go_ret
  exact ⟨by rw [← HR.out]; rfl, rfl⟩

theorem maybe_any (s : ByteArray) (hs : s.size ≤ 9223372036854775807) (w : World) : Calls Try.prog 31 #[.string s] w fun e w' => e = .returned (.bool (maybeB (bs s))) ∧ w = w' := by
  have H := Lib.hid (Lx.good_any s w hs)
  by_cases h0 : bs s = []
  · have h1 : s.toList = [] := by rw [ByteArray.toList_eq]; exact h0
    have hq : maybeB (bs s) = true := by rw [h0]; rfl
    rw [hq]
    clear h0 hq
    go_enter Try.func31, Try.ntmps31
    go_wp2
    go_ret
    exact ⟨rfl, rfl⟩
  · have h1 : ¬ s.toList = [] := by rw [ByteArray.toList_eq]; exact h0
    have h2 : s.toList.isEmpty = false := by rw [List.isEmpty_eq_false_iff]; exact h1
    have hq : maybeB (bs s) = goodB (bs s) := by
      unfold maybeB
      rw [List.isEmpty_eq_false_iff.2 h0, Bool.false_or]
    rw [hq]
    clear h0 hq
    go_enter Try.func31, Try.ntmps31
    go_wp2_with fail
    refine H.out.mono ?_
    rintro e w1 ⟨rfl, rfl⟩
    go_wp2
    go_ret
    exact ⟨rfl, rfl⟩
end Go.Proofs.Ytbkfbejbloclgaa.Cm
