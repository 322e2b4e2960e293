/-
  The walk of the document's plain Good.
-/
import Derived.Test.YtbkfbejbloclgaaRlGood
namespace Go.Proofs.Ytbkfbejbloclgaa.Lx
open Go.RowKit
set_option maxRecDepth 100000

theorem rletter_any (c : Nat) (w : World) :
    Calls Try.prog 63 #[.int .u8 c] w fun e w' => e = .returned (.bool (letterN c)) ∧ w = w' := by
  go_enter Try.func63, Try.ntmps63
  go_wp2
  all_goals (go_ret; refine ⟨congrArg (fun b => Ending.returned (Value.bool b)) (?_ : _ = letterN c), rfl⟩; rw [Bool.eq_iff_iff]; simp [letterN]; omega)

theorem rrest_any (c : Nat) (w : World) :
    Calls Try.prog 64 #[.int .u8 c] w fun e w' => e = .returned (.bool (nameN c)) ∧ w = w' := by
  have K1 := Lib.hid (rletter_any c)
  go_enter Try.func64, Try.ntmps64
  go_wp2_with fail
  refine (K1.out _).mono ?_
  rintro e w1 ⟨rfl, rfl⟩
  cases hl : letterN c <;> simp only [letterN, decide_eq_true_eq, decide_eq_false_iff_not] at hl
  all_goals go_wp2
  all_goals (go_ret; refine ⟨congrArg (fun b => Ending.returned (Value.bool b)) (?_ : _ = nameN c), rfl⟩; rw [Bool.eq_iff_iff]; simp [nameN]; omega)
set_option maxHeartbeats 1000000 in
theorem rgood_any (s : ByteArray) (w : World) (hs : s.size ≤ 9223372036854775807) :
    Calls Try.prog 34 #[.string s] w fun e w' => e = .returned (.bool (goodB (bs s))) ∧ w = w' := by
  obtain ⟨B, hB⟩ : ∃ B, B = goodB (bs s) := ⟨_, rfl⟩
  rw [← hB]
  have HB := Lib.hid hB
  clear hB
  go_enter Try.func34, Try.ntmps34
  go_wp2
  go_loop [3] (fun i => ∃ k : Nat, k ≤ s.size ∧ i = .int .i64 k ∧ (∀ j, (h : j < s.size) → j < k → nameN s[j].toNat = true) ∧ (0 < k → ∀ h : 0 < s.size, letterN s[0].toNat = true)) (fun i => s.size - (intOf i).toNat)
  case atStart => exact ⟨0, by omega, rfl, fun j _ h => absurd h (by omega), fun h => absurd h (by omega)⟩
  case round =>
    obtain ⟨k, hk, rfl, hall, hlet⟩ := hrel
    have HA := Lib.hid hall
    have HL := Lib.hid hlet
    clear hall hlet
    by_cases hks : k < s.size
    · have K1 := Lib.hid (rletter_any s[k].toNat)
      have K2 := Lib.hid (rrest_any s[k].toNat)
      by_cases hk0 : k = 0
      · subst hk0
        cases hl : letterN s[0].toNat
        · have hb := good_bad s 0 hks (.inl ⟨rfl, hl⟩)
          have HF := Lib.hid hb
          clear hb
          go_wp2_with fail
          refine (K1.out _).mono ?_
          rintro e w1 ⟨rfl, rfl⟩
          rw [hl]
          go_wp2
          go_ret
          exact ⟨by rw [HB.out, HF.out]; rfl, rfl⟩
        · go_wp2_with fail
          refine (K1.out _).mono ?_
          rintro e w1 ⟨rfl, rfl⟩
          rw [hl]
          go_wp2_with fail
          refine (K2.out _).mono ?_
          rintro e w1 ⟨rfl, rfl⟩
          have hn := letter_name hl
          rw [hn]
          go_wp2
          go_round
          case rel =>
            refine ⟨1, by omega, rfl, ?_, fun _ _ => hl⟩
            intro j hj hj1
            have : j = 0 := by omega
            subst this; exact hn
          case measure => simp [intOf]; omega
      · have hk0' : ((k : Int) == 0) = false := by rw [beq_eq_false_iff_ne]; omega
        cases hn : nameN s[k].toNat
        · have hb := good_bad s k hks (.inr hn)
          have HF := Lib.hid hb
          clear hb
          go_wp2_with fail
          refine (K2.out _).mono ?_
          rintro e w1 ⟨rfl, rfl⟩
          rw [hn]
          go_wp2
          go_ret
          exact ⟨by rw [HB.out, HF.out]; rfl, rfl⟩
        · go_wp2_with fail
          refine (K2.out _).mono ?_
          rintro e w1 ⟨rfl, rfl⟩
          rw [hn]
          go_wp2
          go_round
          case rel =>
            refine ⟨k + 1, by omega, by go_num, ?_, fun _ => HL.out (by omega)⟩
            intro j hj hj1
            by_cases e : j = k
            · subst e; exact hn
            · exact HA.out j hj (by omega)
          case measure => simp [intOf]; omega
    · have : k = s.size := by omega
      subst this
      have hb := good_end s (fun j h => HA.out j h h) (fun h => HL.out h h)
      have HF := Lib.hid hb
      clear hb
      go_wp2
      all_goals
        go_ret
        refine ⟨congrArg (fun b => Ending.returned (Value.bool b)) (?_ : _ = B), rfl⟩
        rw [HB.out, HF.out, Bool.eq_iff_iff]
        simp
        try omega

end Go.Proofs.Ytbkfbejbloclgaa.Lx
