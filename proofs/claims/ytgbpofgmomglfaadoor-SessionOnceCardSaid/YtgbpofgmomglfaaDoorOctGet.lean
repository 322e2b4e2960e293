/-
  The walks of octets.Get.
-/
import Derived.Test.YtgbpofgmomglfaaDoorRows
import Derived.Test.YtgbpofgmomglfaaDoorOctMath
import Derived.WalkKit
import Derived.WalkSpells
import Derived.WalkLawsBesides
import Derived.Lib.Hide
import Derived.BigQuiet
import Derived.Deep.QuietTactic
namespace Go.Proofs.YtgbpofgmomglfaaDoor.Oct
open Go.RowKit

/-- The bytes of a string. -/
abbrev bs (s : ByteArray) : List UInt8 := s.data.toList

set_option maxHeartbeats 400000 in
theorem get_nil (s : ByteArray) (w : World) (h : s.toList.isEmpty = true) :
    Calls Tryd.prog 59 #[.string s] w fun e w' => e = .returned (.tuple #[.int .i64 0, .int .i64 0, .int .i64 3]) ∧ w = w' := by
  go_enter Tryd.func59, Tryd.ntmps59
  go_wp2
  go_ret3
  exact ⟨rfl, rfl⟩

set_option maxHeartbeats 400000 in
theorem get_form (s : ByteArray) (w : World) (h : s.toList.isEmpty = false) (h0 : 0 < s.size) (hc : 7 < (s[0].toNat : Int) % 128) :
    Calls Tryd.prog 59 #[.string s] w fun e w' => e = .returned (.tuple #[.int .i64 0, .int .i64 0, .int .i64 2]) ∧ w = w' := by
  go_enter Tryd.func59, Tryd.ntmps59
  go_wp2
  go_ret3
  exact ⟨rfl, rfl⟩

set_option maxHeartbeats 400000 in
theorem get_minus0 (s : ByteArray) (w : World) (h : s.toList.isEmpty = false) (h0 : 0 < s.size) (hc : 128 ≤ (s[0].toNat : Int)) (hc' : ((s[0].toNat : Int) % 128 == 0) = true) :
    Calls Tryd.prog 59 #[.string s] w fun e w' => e = .returned (.tuple #[.int .i64 0, .int .i64 0, .int .i64 2]) ∧ w = w' := by
  go_enter Tryd.func59, Tryd.ntmps59
  go_wp2
  all_goals go_ret3
  all_goals exact ⟨rfl, rfl⟩

set_option maxHeartbeats 400000 in
theorem get_short (s : ByteArray) (w : World) (h : s.toList.isEmpty = false) (h0 : 0 < s.size) (hc : (s[0].toNat : Int) % 128 ≤ 7) (hc' : 128 ≤ (s[0].toNat : Int) → ((s[0].toNat : Int) % 128 == 0) = false) (hs : (s.size : Int) ≤ (s[0].toNat : Int) % 128) :
    Calls Tryd.prog 59 #[.string s] w fun e w' => e = .returned (.tuple #[.int .i64 0, .int .i64 0, .int .i64 3]) ∧ w = w' := by
  by_cases hm : 128 ≤ (s[0].toNat : Int)
  · have hz := hc' hm
    clear hc'
    go_enter Tryd.func59, Tryd.ntmps59
    go_wp2
    go_ret3
    exact ⟨rfl, rfl⟩
  · clear hc'
    go_enter Tryd.func59, Tryd.ntmps59
    go_wp2
    go_ret3
    exact ⟨rfl, rfl⟩

theorem bs_length (s : ByteArray) : (bs s).length = s.size := rfl
theorem bs_get (s : ByteArray) (k : Nat) (h : k < s.size) : (bs s)[k]'h = s[k] := rfl
theorem bs_cons (s : ByteArray) (h : 0 < s.size) : bs s = s[0] :: (bs s).tail := by
  cases e : bs s with
  | nil => have := bs_length s; rw [e] at this; simp at this; omega
  | cons c l =>
    have h1 : (bs s)[0]'h = s[0] := rfl
    simp only [e, List.getElem_cons_zero] at h1
    rw [← h1]; rfl
theorem tail_len (s : ByteArray) : (bs s).tail.length = s.size - 1 := by rw [List.length_tail, bs_length]
theorem tail_get (s : ByteArray) (k : Nat) (h : 1 + k < s.size) : (bs s).tail[k]'(by rw [tail_len]; omega) = s[1 + k] := by
  rw [List.getElem_tail]
  exact (bs_get s (k + 1) (by omega)).trans (by congr 1; omega)
theorem tail_head (s : ByteArray) (h : 1 < s.size) : (bs s).tail.head? = some s[1] := by
  rw [List.head?_eq_getElem?, List.getElem?_eq_getElem (by rw [tail_len]; omega), tail_get s 0 (by omega)]

theorem or_i64 (v c : Int) (h0 : 0 ≤ v) (h1 : v < 281474976710656) (hc : 0 ≤ c) (hc' : c < 256) : bits .or .i64 (v * 256) c = v * 256 + c := by
  obtain ⟨a, rfl⟩ := Int.eq_ofNat_of_zero_le h0
  obtain ⟨b, rfl⟩ := Int.eq_ofNat_of_zero_le hc
  have hx : a * 256 ||| b = a * 256 + b := by
    rw [show a * 256 = a <<< 8 from by rw [Nat.shiftLeft_eq]]
    exact (Nat.shiftLeft_add_eq_or_of_lt (by omega) a).symm
  have e1 : ((a : Int) * 256) = ((a * 256 : Nat) : Int) := by omega
  rw [e1]
  show IntKind.i64.wrap ((BitVec.ofInt 64 ((a * 256 : Nat) : Int) ||| BitVec.ofInt 64 (b : Int)).toNat : Int) = _
  rw [BitVec.toNat_or, ofInt_u64 _ (by omega), ofInt_u64 b (by omega), hx]
  rw [IntWalk.i64_in _ (by omega)]
  omega

/-- The number of three results. -/
def three (r : Int × Nat × Nat) : Ending := .returned (.tuple #[.int .i64 r.1, .int .i64 r.2.1, .int .i64 r.2.2])
theorem three_of {r : Int × Nat × Nat} {a b c : Int} (h : r.1 = a ∧ (r.2.1 : Int) = b ∧ (r.2.2 : Int) = c) :
    Ending.returned (.tuple #[.int .i64 a, .int .i64 b, .int .i64 c]) = three r := by
  obtain ⟨rfl, rfl, rfl⟩ := h; rfl

/-- What the code does with the head: the reader's cases in the walk's own words. -/
theorem gb_nil (s : ByteArray) (h : s.toList.isEmpty = true) : gb (bs s) = (0, 0, 3) := by
  have : bs s = [] := by
    have h2 : s.toList = [] := by simpa using h
    rw [bs, ← ByteArray.toList_eq, h2]
  rw [this]; rfl
theorem gb_form (s : ByteArray) (h0 : 0 < s.size) (h : 7 < (s[0].toNat : Int) % 128 ∨ s[0].toNat = 128) : gb (bs s) = (0, 0, 2) := by
  rw [bs_cons s h0]
  simp only [gb]
  rw [if_pos (by omega)]
theorem gb_short (s : ByteArray) (h0 : 0 < s.size) (h : ¬ (7 < (s[0].toNat : Int) % 128 ∨ s[0].toNat = 128)) (h2 : (s.size : Int) ≤ (s[0].toNat : Int) % 128) : gb (bs s) = (0, 0, 3) := by
  rw [bs_cons s h0]
  simp only [gb]
  rw [if_neg (by omega), if_pos (by rw [tail_len]; omega)]
theorem gb_zero (s : ByteArray) (h0 : 0 < s.size) (h : ¬ (7 < (s[0].toNat : Int) % 128 ∨ s[0].toNat = 128)) (h2 : (s[0].toNat : Int) % 128 < (s.size : Int)) (k : Nat) (hk : (k : Int) = (s[0].toNat : Int) % 128)
    (h3 : 0 < k ∧ ∃ h1 : 1 < s.size, s[1].toNat = 0) : gb (bs s) = (0, 0, 2) := by
  rw [bs_cons s h0]
  simp only [gb]
  rw [if_neg (by omega), if_neg (by rw [tail_len]; omega), if_pos]
  obtain ⟨h3, h1, h4⟩ := h3
  refine .inl ⟨by omega, ?_⟩
  rw [tail_head s h1]
  congr 1
  exact UInt8.toNat_inj.1 h4
theorem gb_big (s : ByteArray) (h0 : 0 < s.size) (h : ¬ (7 < (s[0].toNat : Int) % 128 ∨ s[0].toNat = 128)) (h2 : (s[0].toNat : Int) % 128 < (s.size : Int)) (k : Nat) (hk : (k : Int) = (s[0].toNat : Int) % 128)
    (h3 : (9007199254740992 : Int) < val ((bs s).tail.take k)) : gb (bs s) = (0, 0, 2) := by
  rw [bs_cons s h0]
  simp only [gb]
  have e : s[0].toNat % 128 = k := by omega
  rw [if_neg (by omega), if_neg (by rw [tail_len]; omega), if_pos]
  refine .inr ?_
  rw [e]; omega
theorem gb_good (s : ByteArray) (h0 : 0 < s.size) (h : ¬ (7 < (s[0].toNat : Int) % 128 ∨ s[0].toNat = 128)) (h2 : (s[0].toNat : Int) % 128 < (s.size : Int)) (k : Nat) (hk : (k : Int) = (s[0].toNat : Int) % 128)
    (h3 : 0 < k → ∃ h1 : 1 < s.size, ¬ s[1].toNat = 0) (h4 : (val ((bs s).tail.take k) : Int) ≤ 9007199254740992) :
    gb (bs s) = (if 128 ≤ (s[0].toNat : Int) then -(val ((bs s).tail.take k) : Int) else (val ((bs s).tail.take k) : Int), k + 1, 0) := by
  have e : s[0].toNat % 128 = k := by omega
  have hb := bs_cons s h0
  generalize (bs s).tail = t at *
  rw [hb]
  simp only [gb, e]
  rw [if_neg (by omega), if_neg, if_neg]
  · have : (128 ≤ s[0].toNat) ↔ 128 ≤ (s[0].toNat : Int) := by omega
    simp only [this]
  · rintro (⟨h5, h6⟩ | h5)
    · obtain ⟨h1, h7⟩ := h3 h5
      have := tail_head s h1
      rw [hb, List.tail_cons, h6] at this
      injection this with this
      exact h7 (by rw [← this]; rfl)
    · omega
  · have := tail_len s
    rw [hb, List.tail_cons] at this
    omega

set_option maxRecDepth 100000 in
set_option maxHeartbeats 1000000 in
theorem get_long (s : ByteArray) (w : World) (h : s.toList.isEmpty = false) (h0 : 0 < s.size) (hsz : s.size ≤ 9223372036854775807) (hc : (s[0].toNat : Int) % 128 ≤ 7) (hc' : 128 ≤ (s[0].toNat : Int) → ((s[0].toNat : Int) % 128 == 0) = false) (hs : (s[0].toNat : Int) % 128 < (s.size : Int)) :
    Calls Tryd.prog 59 #[.string s] w fun e w' => e = three (gb (bs s)) ∧ w = w' := by
  have hnf : ¬ (7 < (s[0].toNat : Int) % 128 ∨ s[0].toNat = 128) := by
    rintro (h1 | h1)
    · omega
    · have := hc' (by omega)
      rw [h1] at this
      exact absurd this (by decide)
  have HNF := Lib.hid hnf
  clear hnf
  by_cases hm : 128 ≤ (s[0].toNat : Int)
  · have hz := hc' hm
    clear hc'
    go_enter Tryd.func59, Tryd.ntmps59
    go_wp2
    go_loop [7, 32] (fun n i => ∃ k : Nat, (k : Int) ≤ (s[0].toNat : Int) % 128 ∧ i = .int .i64 k ∧ n = .int .i64 (val ((bs s).tail.take k))) (fun _ i => s.size - (intOf i).toNat)
    case atStart => exact ⟨0, by simp; omega, rfl, rfl⟩
    case round =>
      obtain ⟨k, hk, rfl, rfl⟩ := hrel
      obtain ⟨v, hv⟩ : ∃ v : Int, v = val ((bs s).tail.take k) := ⟨_, rfl⟩
      have hv7 : v < 72057594037927936 := by
        have := val_take_lt (bs s).tail k
        have h7 : 256 ^ k ≤ 256 ^ 7 := Nat.pow_le_pow_right (by omega) (by omega)
        have : val ((bs s).tail.take k) < 72057594037927936 := Nat.lt_of_lt_of_le this h7
        omega
      have hv0 : 0 ≤ v := by omega
      have hv6 : (k : Int) < (s[0].toNat : Int) % 128 → v < 281474976710656 := by
        intro hlt
        have := val_take_lt (bs s).tail k
        have h7 : 256 ^ k ≤ 256 ^ 6 := Nat.pow_le_pow_right (by omega) (by omega)
        have : val ((bs s).tail.take k) < 281474976710656 := Nat.lt_of_lt_of_le this h7
        omega
      have HV := Lib.hid hv
      rw [← hv]
      clear hv
      by_cases hlt : (k : Int) < (s[0].toNat : Int) % 128
      · have hk1 : 1 + k < s.size := by omega
        have hb := s[1 + k].toNat_lt
        have hv8 := hv6 hlt
        clear hv6
        go_wp2
        go_round
        case rel =>
          refine ⟨k + 1, by omega, by go_num, ?_⟩
          rw [val_take_succ _ k (by rw [tail_len]; omega), tail_get s k hk1]
          rw [or_i64 v _ hv0 hv8 (by omega) (by omega), HV.out]
          go_num
        case measure => simp [intOf]; omega
      · clear hv6
        have HK : Hid ((k : Int) = (s[0].toNat : Int) % 128) := by unfold Hid; omega
        clear hk
        go_wp2
        all_goals go_ret3
        all_goals have hh := HNF.out
        all_goals have hk := HK.out
        all_goals have hv := HV.out
        all_goals first
          | (refine ⟨three_of (a := 0) (b := 0) (c := 2) ?_, rfl⟩; rw [gb_zero s h0 hh hs k hk ⟨by omega, by omega, by assumption⟩]; exact ⟨rfl, rfl, rfl⟩)
          | (refine ⟨three_of (a := 0) (b := 0) (c := 2) ?_, rfl⟩; rw [gb_big s h0 hh hs k hk (by rw [← hv]; rcases ‹_ ∨ _› with h5 | h5; (exact absurd (beq_iff_eq.1 h5) (by omega)); exact h5)]; exact ⟨rfl, rfl, rfl⟩)
          | (refine ⟨three_of (a := 0) (b := 0) (c := 2) ?_, rfl⟩; rw [gb_big s h0 hh hs k hk (by rw [← hv]; omega)]; exact ⟨rfl, rfl, rfl⟩)
          | (refine ⟨three_of (a := -v) (b := 1 + (s[0].toNat : Int) % 128) (c := 0) ?_, rfl⟩; rw [gb_good s h0 hh hs k hk (fun _ => ⟨by omega, by omega⟩) (by rw [← hv]; omega)]; refine ⟨?_, ?_, rfl⟩; (rw [hv]; exact if_pos (by omega)); (rw [← hk]; simp; omega))
          | (refine ⟨three_of (a := -v) (b := 1 + (s[0].toNat : Int) % 128) (c := 0) ?_, rfl⟩; rw [gb_good s h0 hh hs k hk (fun h5 => absurd h5 (by omega)) (by rw [← hv]; omega)]; refine ⟨?_, ?_, rfl⟩; (rw [hv]; exact if_pos (by omega)); (rw [← hk]; simp; omega))
  · clear hc'
    go_enter Tryd.func59, Tryd.ntmps59
    go_wp2
    go_loop [7, 32] (fun n i => ∃ k : Nat, (k : Int) ≤ (s[0].toNat : Int) % 128 ∧ i = .int .i64 k ∧ n = .int .i64 (val ((bs s).tail.take k))) (fun _ i => s.size - (intOf i).toNat)
    case atStart => exact ⟨0, by simp; omega, rfl, rfl⟩
    case round =>
      obtain ⟨k, hk, rfl, rfl⟩ := hrel
      obtain ⟨v, hv⟩ : ∃ v : Int, v = val ((bs s).tail.take k) := ⟨_, rfl⟩
      have hv7 : v < 72057594037927936 := by
        have := val_take_lt (bs s).tail k
        have h7 : 256 ^ k ≤ 256 ^ 7 := Nat.pow_le_pow_right (by omega) (by omega)
        have : val ((bs s).tail.take k) < 72057594037927936 := Nat.lt_of_lt_of_le this h7
        omega
      have hv0 : 0 ≤ v := by omega
      have hv6 : (k : Int) < (s[0].toNat : Int) % 128 → v < 281474976710656 := by
        intro hlt
        have := val_take_lt (bs s).tail k
        have h7 : 256 ^ k ≤ 256 ^ 6 := Nat.pow_le_pow_right (by omega) (by omega)
        have : val ((bs s).tail.take k) < 281474976710656 := Nat.lt_of_lt_of_le this h7
        omega
      have HV := Lib.hid hv
      rw [← hv]
      clear hv
      by_cases hlt : (k : Int) < (s[0].toNat : Int) % 128
      · have hk1 : 1 + k < s.size := by omega
        have hb := s[1 + k].toNat_lt
        have hv8 := hv6 hlt
        clear hv6
        go_wp2
        go_round
        case rel =>
          refine ⟨k + 1, by omega, by go_num, ?_⟩
          rw [val_take_succ _ k (by rw [tail_len]; omega), tail_get s k hk1]
          rw [or_i64 v _ hv0 hv8 (by omega) (by omega), HV.out]
          go_num
        case measure => simp [intOf]; omega
      · clear hv6
        have HK : Hid ((k : Int) = (s[0].toNat : Int) % 128) := by unfold Hid; omega
        clear hk
        go_wp2
        all_goals go_ret3
        all_goals have hh := HNF.out
        all_goals have hk := HK.out
        all_goals have hv := HV.out
        all_goals first
          | (refine ⟨three_of (a := 0) (b := 0) (c := 2) ?_, rfl⟩; rw [gb_zero s h0 hh hs k hk ⟨by omega, by omega, by assumption⟩]; exact ⟨rfl, rfl, rfl⟩)
          | (refine ⟨three_of (a := 0) (b := 0) (c := 2) ?_, rfl⟩; rw [gb_big s h0 hh hs k hk (by rw [← hv]; rcases ‹_ ∨ _› with h5 | h5; (exact absurd (beq_iff_eq.1 h5) (by omega)); exact h5)]; exact ⟨rfl, rfl, rfl⟩)
          | (refine ⟨three_of (a := 0) (b := 0) (c := 2) ?_, rfl⟩; rw [gb_big s h0 hh hs k hk (by rw [← hv]; omega)]; exact ⟨rfl, rfl, rfl⟩)
          | (refine ⟨three_of (a := v) (b := 1 + (s[0].toNat : Int) % 128) (c := 0) ?_, rfl⟩; rw [gb_good s h0 hh hs k hk (fun _ => ⟨by omega, by omega⟩) (by rw [← hv]; omega)]; refine ⟨?_, ?_, rfl⟩; (rw [hv]; exact if_neg (by omega)); (rw [← hk]; simp; omega))
          | (refine ⟨three_of (a := v) (b := 1 + (s[0].toNat : Int) % 128) (c := 0) ?_, rfl⟩; rw [gb_good s h0 hh hs k hk (fun h5 => absurd h5 (by omega)) (by rw [← hv]; omega)]; refine ⟨?_, ?_, rfl⟩; (rw [hv]; exact if_neg (by omega)); (rw [← hk]; simp; omega))

/-- octets.Get, whatever comes in. -/
theorem get_any (s : ByteArray) (w : World) (hsz : s.size ≤ 9223372036854775807) :
    Calls Tryd.prog 59 #[.string s] w fun e w' => e = three (gb (bs s)) ∧ w = w' := by
  cases h : s.toList.isEmpty with
  | true => rw [gb_nil s h]; exact get_nil s w h
  | false =>
    have h0 : 0 < s.size := by
      rcases Nat.eq_zero_or_pos s.size with h1 | h1
      · exfalso
        have : bs s = [] := List.eq_nil_of_length_eq_zero (by rw [bs_length]; exact h1)
        rw [ByteArray.toList_eq] at h
        simp only [bs] at this
        rw [this] at h
        exact absurd h (by decide)
      · exact h1
    by_cases hc : (s[0].toNat : Int) % 128 ≤ 7
    · by_cases hc2 : s[0].toNat = 128
      · rw [gb_form s h0 (.inr hc2)]
        exact get_minus0 s w h h0 (by omega) (by rw [beq_iff_eq]; omega)
      · have hc' : 128 ≤ (s[0].toNat : Int) → ((s[0].toNat : Int) % 128 == 0) = false := by
          intro h1
          rw [beq_eq_false_iff_ne]
          have := s[0].toNat_lt
          omega
        by_cases hs : (s[0].toNat : Int) % 128 < (s.size : Int)
        · exact get_long s w h h0 hsz hc hc' hs
        · rw [gb_short s h0 (by omega) (by omega)]
          exact get_short s w h h0 hc hc' (by omega)
    · rw [gb_form s h0 (.inl (by omega))]
      exact get_form s w h h0 (by omega)

end Go.Proofs.YtgbpofgmomglfaaDoor.Oct
