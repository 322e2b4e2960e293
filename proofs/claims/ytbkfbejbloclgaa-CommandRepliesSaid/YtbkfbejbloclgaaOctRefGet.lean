/-
  The walks of the document's plain Get.
-/
import Derived.Test.YtbkfbejbloclgaaOctRefPut
import Derived.RegionTactic
import Derived.Deep.RegionWith
namespace Go.Proofs.Ytbkfbejbloclgaa.Oct
open Go.RowKit

set_option maxRecDepth 100000 in
set_option maxHeartbeats 400000 in
theorem rget_nil (s : ByteArray) (w : World) (h : s.toList.isEmpty = true) :
    Calls Try.prog 72 #[.string s] w fun e w' => e = three (0, 0, 3) ∧ Below w.heap.size w w' := by
  go_enter Try.func72, Try.ntmps72
  go_wp2
  go_ret3
  exact ⟨rfl, Below.refl _ _⟩

set_option maxRecDepth 100000 in
set_option maxHeartbeats 400000 in
theorem rget_form (s : ByteArray) (w : World) (h : s.toList.isEmpty = false) (h0 : 0 < s.size) (hc : 7 < (s[0].toNat : Int) % 128) :
    Calls Try.prog 72 #[.string s] w fun e w' => e = three (0, 0, 2) ∧ Below w.heap.size w w' := by
  have hb0 : (s[0].toNat : Int) < 256 := by have := s[0].toNat_lt; omega
  go_enter Try.func72, Try.ntmps72
  go_wp2
  go_ret3
  exact ⟨rfl, Below.refl _ _⟩

set_option maxRecDepth 100000 in
set_option maxHeartbeats 400000 in
theorem rget_minus0 (s : ByteArray) (w : World) (h : s.toList.isEmpty = false) (h0 : 0 < s.size) (hc : (s[0].toNat : Int) % 128 ≤ 7) (hc' : ((s[0].toNat : Int) == 128) = true) :
    Calls Try.prog 72 #[.string s] w fun e w' => e = three (0, 0, 2) ∧ Below w.heap.size w w' := by
  have hb0 : (s[0].toNat : Int) < 256 := by have := s[0].toNat_lt; omega
  go_enter Try.func72, Try.ntmps72
  go_wp2
  all_goals go_ret3
  all_goals exact ⟨rfl, Below.refl _ _⟩

set_option maxRecDepth 100000 in
set_option maxHeartbeats 400000 in
theorem rget_short (s : ByteArray) (w : World) (h : s.toList.isEmpty = false) (h0 : 0 < s.size) (hc : (s[0].toNat : Int) % 128 ≤ 7) (hc' : ((s[0].toNat : Int) == 128) = false) (hs : (s.size : Int) < (s[0].toNat : Int) % 128 + 1) :
    Calls Try.prog 72 #[.string s] w fun e w' => e = three (0, 0, 3) ∧ Below w.heap.size w w' := by
  have hb0 : (s[0].toNat : Int) < 256 := by have := s[0].toNat_lt; omega
  go_enter Try.func72, Try.ntmps72
  go_wp2
  go_ret3
  exact ⟨rfl, Below.refl _ _⟩

/-- What stands in the end: the number, where its bytes are those that were read. -/
theorem fin_ref (s : ByteArray) (h0 : 0 < s.size) (hnf : Hid (¬ (7 < (s[0].toNat : Int) % 128 ∨ s[0].toNat = 128))) (hs : (s[0].toNat : Int) % 128 + 1 ≤ (s.size : Int)) (k : Nat) (hk : Hid ((k : Int) = (s[0].toNat : Int) % 128))
    (v : Int) (hv : Hid (v = (val ((bs s).tail.take k) : Int))) (p q : ByteArray) (hp : p = ⟨(pb (if 127 < (s[0].toNat : Int) then -v else v)).toArray⟩) (hq : q = s.extract 0 (k + 1)) :
    three (gb (bs s)) = if (p.toList == q.toList) = true then three (if 127 < (s[0].toNat : Int) then -v else v, k + 1, 0) else three (0, 0, 2) := by
  have hnf := hnf.out
  have hk := hk.out
  have hv := hv.out
  have e : s[0].toNat % 128 = k := by omega
  have hq' : q.toList = s[0] :: (bs s).tail.take k := by
    rw [hq, Lib.extract_toList, List.drop_zero]
    show (bs s).take (k + 1 - 0) = _
    rw [bs_cons s h0]; rfl
  have hp' : p.toList = pb (if 127 < (s[0].toNat : Int) then -v else v) := by rw [hp, ByteArray.toList_mk]
  have hb := gb_by_pb s[0] (bs s).tail (by omega) (by rw [tail_len]; omega)
  rw [← bs_cons s h0, e, ← hv] at hb
  have hsgn : (127 < s[0].toNat) ↔ (127 < (s[0].toNat : Int)) := by omega
  simp only [hsgn] at hb
  rw [hp', hq', hb]
  generalize (if 127 < (s[0].toNat : Int) then -v else v) = z
  by_cases hpe : pb z = s[0] :: (bs s).tail.take k
  · rw [if_pos hpe, if_pos (by rw [beq_iff_eq]; exact hpe)]
  · rw [if_neg hpe, if_neg (by rw [beq_iff_eq]; exact hpe)]

set_option maxRecDepth 100000 in
set_option maxHeartbeats 1000000 in
theorem rget_long (s : ByteArray) (w : World) (h : s.toList.isEmpty = false) (h0 : 0 < s.size) (hsz : s.size ≤ 9223372036854775807) (hc : (s[0].toNat : Int) % 128 ≤ 7) (hc' : ((s[0].toNat : Int) == 128) = false) (hs : (s[0].toNat : Int) % 128 + 1 ≤ (s.size : Int)) :
    Calls Try.prog 72 #[.string s] w fun e w' => e = three (gb (bs s)) ∧ Below w.heap.size w w' := by
  have hb0 : (s[0].toNat : Int) < 256 := by have := s[0].toNat_lt; omega
  have hnf : Hid (¬ (7 < (s[0].toNat : Int) % 128 ∨ s[0].toNat = 128)) := by
    rintro (h1 | h1)
    · omega
    · rw [h1] at hc'
      exact absurd hc' (by decide)
  go_enter Try.func72, Try.ntmps72
  go_wp2
  go_loop [6, 7] (fun n i => ∃ k : Nat, (k : Int) ≤ (s[0].toNat : Int) % 128 ∧ i = .int .i64 ((k : Int) + 1) ∧ n = .int .i64 (val ((bs s).tail.take k))) (fun _ i => s.size + 1 - (intOf i).toNat)
  case atStart => exact ⟨0, by simp; omega, rfl, rfl⟩
  case round =>
    obtain ⟨k, hk, rfl, rfl⟩ := hrel
    obtain ⟨v, hv⟩ : ∃ v : Int, v = val ((bs s).tail.take k) := ⟨_, rfl⟩
    have hv7 : v < 72057594037927936 := by
      have := val_take_lt (bs s).tail k
      have h7 : 256 ^ k ≤ 256 ^ 7 := Nat.pow_le_pow_right (by omega) (by omega)
      have : val ((bs s).tail.take k) < 72057594037927936 := Nat.lt_of_lt_of_le this h7
      omega
    have hv0 : 0 ≤ v := by omega
    have HV := Lib.hid hv
    rw [← hv]
    clear hv
    by_cases hlt : (k : Int) + 1 ≤ (s[0].toNat : Int) % 128
    · have hv6 : v < 281474976710656 := by
        have := val_take_lt (bs s).tail k
        have h7 : 256 ^ k ≤ 256 ^ 6 := Nat.pow_le_pow_right (by omega) (by omega)
        have : val ((bs s).tail.take k) < 281474976710656 := Nat.lt_of_lt_of_le this h7
        have := HV.out
        omega
      have hk1 : 1 + k < s.size := by omega
      have hk2 : k + 1 < s.size := by omega
      have hb := s[k + 1].toNat_lt
      go_wp2
      go_round
      case rel =>
        refine ⟨k + 1, by omega, by go_num, ?_⟩
        have hg : s[1 + k] = s[k + 1] := by congr 1; omega
        rw [val_take_succ _ k (by rw [tail_len]; omega), tail_get s k hk1, hg, HV.out]
        go_num
      case measure => simp [intOf]; omega
    · have hk3 : (s[0].toNat : Int) % 128 ≤ k := by omega
      have hk4 : Hid ((k : Int) = (s[0].toNat : Int) % 128) := by unfold Hid; omega
      obtain ⟨q, hq⟩ : ∃ q, q = s.extract 0 (k + 1) := ⟨_, rfl⟩
      have hsl : ∀ W : World, (Instr.slice 9 (.string s) none (some (.int .i64 ((s[0].toNat : Int) % 128 + 1))) none).run Try.prog W = .ok (.string q) W := by
        intro W
        rw [run_slice_string_h W 9 s Try.underlying9 .i64 _ (by omega) (by omega), hq, show ((s[0].toNat : Int) % 128 + 1).toNat = k + 1 from by have := hk4.out; omega]
      have hv' := HV
      clear HV
      by_cases hm : 127 < (s[0].toNat : Int)
      · obtain ⟨p, hp⟩ : ∃ p : ByteArray, p = ⟨(pb (-v)).toArray⟩ := ⟨_, rfl⟩
        have hc1 : ∀ W : World, Calls Try.prog 35 #[.int .i64 (-v)] W fun e w' => e = .returned (.string p) ∧ Below W.heap.size W w' := by intro W; rw [hp]; exact rput_any _ _
        have HC1 := Lib.hid hc1
        have HP := Lib.hid hp
        clear hc1 hp
        have hfin := fin_ref s h0 hnf hs k hk4 v hv' p q (by first | (rw [if_pos hm]; exact HP.out) | (rw [if_neg hm]; exact HP.out)) hq
        first | rw [if_pos hm] at hfin | rw [if_neg hm] at hfin
        have HFIN := Lib.hid hfin
        clear hfin hv' hq
        cases he : p.toList == q.toList
        all_goals
          have HE := Lib.hid he
          go_wp2
          have hwr : IntKind.i64.wrap ((s[0].toNat : Int) % 128 + 1) = (s[0].toNat : Int) % 128 + 1 := IntWalk.i64_in _ (by omega)
          go_region_with (go_at_call 35; refine (HC1.out _).mono ?_; rintro e w' ⟨rfl, hb⟩)
          all_goals clear hwr
          all_goals go_wp2
          all_goals go_ret3
          all_goals refine ⟨?_, ((Below.refl _ _).drew).trans hb⟩
          all_goals rw [HFIN.out, HE.out]
          all_goals first
            | (rw [if_neg (by decide)]; exact three_of (a := 0) (b := 0) (c := 2) ⟨rfl, rfl, rfl⟩)
            | (rw [if_pos rfl]; have hk5 := hk4.out; exact three_of (a := -v) (b := (s[0].toNat : Int) % 128 + 1) (c := 0) ⟨rfl, by simp only; omega, rfl⟩)
      · obtain ⟨p, hp⟩ : ∃ p : ByteArray, p = ⟨(pb (v)).toArray⟩ := ⟨_, rfl⟩
        have hc1 : ∀ W : World, Calls Try.prog 35 #[.int .i64 (v)] W fun e w' => e = .returned (.string p) ∧ Below W.heap.size W w' := by intro W; rw [hp]; exact rput_any _ _
        have HC1 := Lib.hid hc1
        have HP := Lib.hid hp
        clear hc1 hp
        have hfin := fin_ref s h0 hnf hs k hk4 v hv' p q (by first | (rw [if_pos hm]; exact HP.out) | (rw [if_neg hm]; exact HP.out)) hq
        first | rw [if_pos hm] at hfin | rw [if_neg hm] at hfin
        have HFIN := Lib.hid hfin
        clear hfin hv' hq
        cases he : p.toList == q.toList
        all_goals
          have HE := Lib.hid he
          go_wp2
          have hwr : IntKind.i64.wrap ((s[0].toNat : Int) % 128 + 1) = (s[0].toNat : Int) % 128 + 1 := IntWalk.i64_in _ (by omega)
          go_region_with (go_at_call 35; refine (HC1.out _).mono ?_; rintro e w' ⟨rfl, hb⟩)
          all_goals clear hwr
          all_goals go_wp2
          all_goals go_ret3
          all_goals refine ⟨?_, ((Below.refl _ _).drew).trans hb⟩
          all_goals rw [HFIN.out, HE.out]
          all_goals first
            | (rw [if_neg (by decide)]; exact three_of (a := 0) (b := 0) (c := 2) ⟨rfl, rfl, rfl⟩)
            | (rw [if_pos rfl]; have hk5 := hk4.out; exact three_of (a := v) (b := (s[0].toNat : Int) % 128 + 1) (c := 0) ⟨rfl, by simp only; omega, rfl⟩)

/-- The plain Get, whatever comes in. -/
theorem rget_any (s : ByteArray) (w : World) (hsz : s.size ≤ 9223372036854775807) :
    Calls Try.prog 72 #[.string s] w fun e w' => e = three (gb (bs s)) ∧ Below w.heap.size w w' := by
  cases h : s.toList.isEmpty with
  | true => rw [gb_nil s h]; exact rget_nil s w h
  | false =>
    have h0 : 0 < s.size := by
      rcases Nat.eq_zero_or_pos s.size with h1 | h1
      · exfalso
        have : bs s = [] := List.eq_nil_of_length_eq_zero (by rw [bs_length]; exact h1)
        rw [ByteArray.toList_eq] at h
        simp only [bs] at this
        rw [this] at h
        exact absurd h (by decide)
      · exact h1
    by_cases hc : (s[0].toNat : Int) % 128 ≤ 7
    · by_cases hc2 : s[0].toNat = 128
      · rw [gb_form s h0 (.inr hc2)]
        exact rget_minus0 s w h h0 hc (by rw [beq_iff_eq]; omega)
      · have hc' : ((s[0].toNat : Int) == 128) = false := by
          rw [beq_eq_false_iff_ne]
          omega
        by_cases hs : (s[0].toNat : Int) % 128 + 1 ≤ (s.size : Int)
        · exact rget_long s w h h0 hsz hc hc' hs
        · rw [gb_short s h0 (by omega) (by omega)]
          exact rget_short s w h h0 hc hc' (by omega)
    · rw [gb_form s h0 (.inl (by omega))]
      exact rget_form s w h h0 (by omega)

end Go.Proofs.Ytbkfbejbloclgaa.Oct
