/-
  The law's bools: two rows of the same truth values.
-/
import Derived.Test.YtlkijnglpllcdaaFxRfSh
namespace Go.Proofs.Ytlkijnglpllcdaa.Fx
open Go.RowKit
set_option maxRecDepth 100000
set_option linter.unusedSimpArgs false
set_option linter.unusedVariables false

set_option maxHeartbeats 4000000 in
theorem bools_any (l : List Bool) (hn : l.length ≤ 1048576) (P Q : Nat → Prop) (W : World) (v u : Value) (h : BoolsAt P W l v) (k : BoolsAt Q W l u) :
    Calls Try.prog 13 #[v, u] W fun e w' => e = .returned (.bool true) ∧ Below W.heap.size W w' := by
  obtain ⟨A, cap, b, rfl, hcap, h3, h4⟩ := h
  obtain ⟨A', cap', b', rfl, hcap', h3', h4'⟩ := k
  obtain ⟨n, hn1⟩ : ∃ n, n = l.length := ⟨_, rfl⟩
  rw [← hn1] at hcap h3 hcap' h3' hn ⊢
  have HN1 := Lib.hid hn1
  have H3 := Lib.hid h3
  have H4 := Lib.hid h4
  have H3' := Lib.hid h3'
  have H4' := Lib.hid h4'
  clear hn1 h3 h4 h3' h4'
  go_enter Try.func13, Try.ntmps13
  go_wp2_with fail
  go_loopw [5] (fun i wr => ∃ k : Nat, k ≤ n ∧ i = .int .i64 k ∧ Below W.heap.size W wr) (fun i _ => n - (intOf i).toNat)
  case atStart => exact ⟨0, Nat.zero_le _, rfl, Below.refl _ _⟩
  case round =>
    obtain ⟨k, hk, rfl, hb⟩ := hrel
    have HB := Lib.hid hb
    by_cases hlt : k < n
    · obtain ⟨rfl, hbl, _⟩ := H3.out (by omega)
      obtain ⟨rfl, hbl', _⟩ := H3'.out (by omega)
      have hkl : k < l.length := by rw [← HN1.out]; exact hlt
      have y := (hb.cell (p := ⟨b, k, none⟩) hbl).trans (H4.out k hkl)
      have y' := (hb.cell (p := ⟨b', k, none⟩) hbl').trans (H4'.out k hkl)
      obtain ⟨x, hx⟩ : ∃ x, x = l[k] := ⟨_, rfl⟩
      rw [← hx] at y y'
      have hlt2 : (k : Int) < (n : Int) := by omega
      clear hx hb
      cases x
      · go_wp2_with fail
        go_quiet (fail)
        go_wp2_with fail
        go_roundw
        case rel => exact ⟨k + 1, by omega, by simp, Gn.below_drewN HB.out _⟩
        case measure => simp [intOf]; omega
      · go_wp2_with fail
        go_quiet (fail)
        go_wp2_with fail
        go_roundw
        case rel => exact ⟨k + 1, by omega, by simp, Gn.below_drewN HB.out _⟩
        case measure => simp [intOf]; omega
    · have hke : n = k := by omega
      subst hke
      have hlt2 : ¬ ((n : Nat) : Int) < ((n : Nat) : Int) := by omega
      clear hb
      go_wp2_with fail
      go_ret
      exact ⟨rfl, HB.out⟩
/-- A row of Bools by a function, as a row of a list. -/
theorem BoolsAt.of_row {w : World} {b n : Nat} {O : Nat → Bool} (h : w.rowIs b 4 n (fun i => .bool (O i))) : BoolsAt (fun _ => True) w ((List.range n).map O) (.slice (some ⟨b, 0, none⟩) n n) := by
  have e : ((List.range n).map O).length = n := by simp
  refine ⟨_, n, b, by rw [e], by rw [e]; exact Nat.le_refl _, fun _ => ⟨rfl, h.lt, trivial⟩, fun i hi => ?_⟩
  rw [h.cell (by simpa using hi)]
  simp
end Go.Proofs.Ytlkijnglpllcdaa.Fx
