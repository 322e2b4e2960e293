/-
  Layer 18: rising; a member that holds.
-/
import Derived.Test.YtnmhgjoofgmcgaaGreatRlBin
import Derived.Test.YtnmhgjoofgmcgaaGreatRlGrant
namespace Go.Proofs.YtnmhgjoofgmcgaaGreat.Rl
open Go.RowKit
open Fx (StrsAt)
set_option maxRecDepth 100000
set_option linter.unusedSimpArgs false
set_option linter.unusedVariables false
/-- Whether names rise, as a call tells it. -/
def Rises (f : Nat → ByteArray) (n : Nat) (W : World) (e : Ending) (w' : World) : Prop := ∃ b : Bool, e = .returned (.bool b) ∧ Below W.heap.size W w' ∧ (b = true ↔ ∀ k, k + 1 < n → cmpN (f k) (f (k + 1)) < 0)
theorem rises_iff (l : List ByteArray) : (∀ k, k + 1 < l.length → cmpN (l.getD k ⟨#[]⟩) (l.getD (k + 1) ⟨#[]⟩) < 0) ↔ Rising l := by
  constructor
  · intro h
    have hs : ∀ d k, k + d + 1 < l.length → cmpN (l.getD k ⟨#[]⟩) (l.getD (k + d + 1) ⟨#[]⟩) < 0 := by
      intro d
      induction d with
      | zero => exact fun k hk => h k hk
      | succ d ih => exact fun k hk => cmpN_trans (ih k (by omega)) (h (k + d + 1) hk)
    refine List.pairwise_iff_getElem.2 fun i j hi hj hij => ?_
    have := hs (j - i - 1) i (by omega)
    rw [show i + (j - i - 1) + 1 = j by omega, List.getD_eq_getElem?_getD, List.getD_eq_getElem?_getD, List.getElem?_eq_getElem hi, List.getElem?_eq_getElem hj] at this
    exact this
  · intro h k hk
    rw [List.getD_eq_getElem?_getD, List.getD_eq_getElem?_getD, List.getElem?_eq_getElem hk, List.getElem?_eq_getElem (show k < l.length by omega)]
    exact h.at_ (Nat.lt_succ_self k) hk
set_option maxHeartbeats 4000000 in
theorem rising_any (f : Nat → ByteArray) (n : Nat) (hn : n ≤ 1048576) (g : FuncId) (cb : Array Value) (W : World) (hf : ∀ (w : World) (i : Nat), Below W.heap.size W w → i < n → Calls Tryz.prog g (#[.int .i64 i] ++ cb) w fun e w' => e = .returned (.string (f i)) ∧ Below w.heap.size w w')
    (eg : ∀ args w, (callFunc g args).run Tryz.prog w = .ok (.enter g args) w) :
    Calls Tryz.prog 76 #[.int .i64 n, .func (.func g) #[] cb] W (Rises f n W) := by
  have HF := Lib.hid hf
  clear hf
  go_enter Tryz.func76, Tryz.ntmps76
  go_upto_block 0 with fail
  go_wp2_with fail
  go_loopw [5] (fun i wr => ∃ a : Nat, i = .int .i64 a ∧ 0 < a ∧ (a ≤ n ∨ a = 1) ∧ (∀ k, k + 1 < a → cmpN (f k) (f (k + 1)) < 0) ∧ Below W.heap.size W wr) (fun i _ => (n + 1 - intOf i).toNat)
  case atStart => exact ⟨1, rfl, by omega, .inr rfl, fun k h => absurd h (by omega), Below.refl _ _⟩
  case round =>
    obtain ⟨a, rfl, ha0, han, hall, hb⟩ := hrel
    have HA := Lib.hid hall
    have HB := Lib.hid hb
    clear hall hb
    by_cases hlt : a < n
    · have hlt2 : (a : Int) < (n : Int) := by omega
      have hw1 : IntKind.i64.wrap ((a : Int) - 1) = ((a - 1 : Nat) : Int) := by
        rw [show (a : Int) - 1 = ((a - 1 : Nat) : Int) by omega]; exact IntWalk.i64_in _ (by omega)
      have hw2 : IntKind.i64.wrap ((a : Int) + 1) = ((a + 1 : Nat) : Int) := by exact IntWalk.i64_in _ (by omega)
      obtain ⟨s, hs⟩ : ∃ s, s = f (a - 1) := ⟨_, rfl⟩
      obtain ⟨t, ht⟩ : ∃ t, t = f a := ⟨_, rfl⟩
      have HC1 := Lib.hid (show Calls Tryz.prog g (#[.int .i64 ((a - 1 : Nat) : Int)] ++ cb) wr fun e w' => e = .returned (.string s) ∧ Below wr.heap.size wr w' by rw [hs]; exact HF.out wr (a - 1) HB.out (by omega))
      have HC2 := Lib.hid (fun (w : World) (b : Below W.heap.size W w) => show Calls Tryz.prog g (#[.int .i64 a] ++ cb) w fun e w' => e = .returned (.string t) ∧ Below w.heap.size w w' by rw [ht]; exact HF.out w a b hlt)
      have hl := (show Op.bytesLess s.toList t.toList = decide (cmpN s t < 0) by rw [less_cmp, Lib.toList_data, Lib.toList_data]; rfl)
      by_cases hst : cmpN s t < 0
      · have HR := Lib.hid (show ∀ k, k + 1 < a + 1 → cmpN (f k) (f (k + 1)) < 0 from fun k hk => by
          by_cases hka : k + 1 < a
          · exact HA.out k hka
          · have : k = a - 1 := by omega
            rw [this, show a - 1 + 1 = a by omega, ← hs, ← ht]; exact hst)
        rw [decide_eq_true hst] at hl
        clear hs ht hst
        go_wp2_with fail
        refine HC1.out.mono ?_
        rintro e w2 ⟨rfl, b2⟩
        have HB2 := Lib.hid (HB.out.trans (b2.mono HB.out.size))
        clear b2
        go_wp2_with fail
        refine (HC2.out w2 HB2.out).mono ?_
        rintro e w3 ⟨rfl, b3⟩
        have HB3 := Lib.hid (HB2.out.trans (b3.mono HB2.out.size))
        clear b3
        have hq : (binOp .geq 9 (.string s) (.string t)).run Tryz.prog w3 = .ok (.bool false) w3 := by
          have hq : (binOp .geq 9 (.string s) (.string t)).run Tryz.prog w3 = .ok (.bool (!Op.bytesLess s.toList t.toList)) w3 := by first | rfl | kernel_rfl
          rw [hq, hl]; rfl
        go_wp2_with fail
        refine ⟨⟨a + 1, by go_num, by omega, .inl (by omega), HR.out, HB3.out⟩, by simp [intOf]; omega⟩
      · have HR := Lib.hid (show ¬ ∀ k, k + 1 < n → cmpN (f k) (f (k + 1)) < 0 from fun h => by
          have := h (a - 1) (by omega)
          rw [show a - 1 + 1 = a by omega, ← hs, ← ht] at this
          exact hst this)
        rw [decide_eq_false hst] at hl
        clear hs ht hst
        go_wp2_with fail
        refine HC1.out.mono ?_
        rintro e w2 ⟨rfl, b2⟩
        have HB2 := Lib.hid (HB.out.trans (b2.mono HB.out.size))
        clear b2
        go_wp2_with fail
        refine (HC2.out w2 HB2.out).mono ?_
        rintro e w3 ⟨rfl, b3⟩
        have HB3 := Lib.hid (HB2.out.trans (b3.mono HB2.out.size))
        clear b3
        have hq : (binOp .geq 9 (.string s) (.string t)).run Tryz.prog w3 = .ok (.bool true) w3 := by
          have hq : (binOp .geq 9 (.string s) (.string t)).run Tryz.prog w3 = .ok (.bool (!Op.bytesLess s.toList t.toList)) w3 := by first | rfl | kernel_rfl
          rw [hq, hl]; rfl
        go_wp2_with fail
        go_ret
        exact ⟨false, rfl, HB3.out, ⟨fun h => (by cases h), fun h => absurd h HR.out⟩⟩
    · have hlt2 : ¬ (a : Int) < (n : Int) := by omega
      have HR := Lib.hid (show ∀ k, k + 1 < n → cmpN (f k) (f (k + 1)) < 0 from fun k hk => HA.out k (by omega))
      go_wp2_with fail
      go_ret
      exact ⟨true, rfl, HB.out, ⟨fun _ => HR.out, fun _ => rfl⟩⟩
end Go.Proofs.YtnmhgjoofgmcgaaGreat.Rl
