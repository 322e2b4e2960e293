/-
  Layer 14: the law's numbers.
-/
import Derived.Test.YtdknlifpoihnmaaTrL
namespace Go.Proofs.Ytdknlifpoihnmaa.Tr
open Go.RowKit
open Gn (Asks)
open Fx (IntsAt StrsAt Prd PG PrdsAt PgAt PgBox)
set_option maxRecDepth 100000
set_option linter.unusedSimpArgs false
set_option linter.unusedVariables false

theorem take_more {l m : List Int} {k : Nat} (h : l.take k = m.take k) (hl : k < l.length) (hm : k < m.length) (e : l[k] = m[k]) : l.take (k + 1) = m.take (k + 1) := by
  rw [List.take_succ_eq_append_getElem hl, List.take_succ_eq_append_getElem hm, h, e]
set_option maxHeartbeats 4000000 in
theorem same_any (l m : List Int) (hlm : l.length = m.length) (hn : l.length ≤ 1099511627776) (P Q : Nat → Prop) (W : World) (v u : Value) (h : IntsAt P W l v) (k : IntsAt Q W m u) :
    Calls Try.prog 18 #[v, u] W fun e w' => e = .returned (.bool (decide (l = m))) ∧ Below W.heap.size W w' := by
  obtain ⟨A, cap, b, rfl, hcap, h3, h4⟩ := h
  obtain ⟨A', cap', b', rfl, hcap', h3', h4'⟩ := k
  obtain ⟨R, hR⟩ : ∃ R, R = decide (l = m) := ⟨_, rfl⟩
  rw [← hR]
  have HR := Lib.hid hR
  obtain ⟨n, hn1⟩ : ∃ n, n = l.length := ⟨_, rfl⟩
  have hn2 : n = m.length := by rw [hn1, hlm]
  rw [← hn1] at hcap h3 hn ⊢
  rw [← hn2] at hcap' h3' ⊢
  have HN1 := Lib.hid hn1
  have HN2 := Lib.hid hn2
  have H3 := Lib.hid h3
  have H4 := Lib.hid h4
  have H3' := Lib.hid h3'
  have H4' := Lib.hid h4'
  clear hn1 hn2 h3 h4 h3' h4' hR hlm
  go_enter Try.func18, Try.ntmps18
  go_wp2_with fail
  go_loopw [5] (fun i wr => ∃ k : Nat, k ≤ n ∧ i = .int .i64 k ∧ Below W.heap.size W wr ∧ l.take k = m.take k) (fun i _ => n - (intOf i).toNat)
  case atStart => exact ⟨0, Nat.zero_le _, rfl, Below.refl _ _, rfl⟩
  case round =>
    obtain ⟨k, hk, rfl, hb, ht⟩ := hrel
    have HB := Lib.hid hb
    have HT := Lib.hid ht
    clear ht
    by_cases hlt : k < n
    · obtain ⟨rfl, hbl, _⟩ := H3.out (by omega)
      obtain ⟨rfl, hbl', _⟩ := H3'.out (by omega)
      have hkl : k < l.length := by rw [← HN1.out]; exact hlt
      have hkm : k < m.length := by rw [← HN2.out]; exact hlt
      have y := (hb.cell (p := ⟨b, k, none⟩) hbl).trans (H4.out k hkl)
      have y' := (hb.cell (p := ⟨b', k, none⟩) hbl').trans (H4'.out k hkm)
      obtain ⟨x, hx⟩ : ∃ x, x = l[k] := ⟨_, rfl⟩
      obtain ⟨z, hz⟩ : ∃ z, z = m[k] := ⟨_, rfl⟩
      rw [← hx] at y
      rw [← hz] at y'
      have HX := Lib.hid hx
      have HZ := Lib.hid hz
      have HKL := Lib.hid hkl
      have HKM := Lib.hid hkm
      have hlt2 : (k : Int) < (n : Int) := by omega
      clear hx hz hb
      by_cases hxz : x = z
      · have HXZ := Lib.hid hxz
        go_wp2_with fail
        go_quiet (fail)
        go_wp2_with fail
        go_roundw
        case rel => exact ⟨k + 1, by omega, by simp, Gn.below_drewN HB.out _, take_more HT.out HKL.out HKM.out (by rw [← HX.out, ← HZ.out, HXZ.out])⟩
        case measure => simp [intOf]; omega
      · have HXZ := Lib.hid hxz
        have hR2 : R = false := by
          rw [HR.out]
          refine decide_eq_false fun e => HXZ.out ?_
          subst e
          rw [HX.out, HZ.out]
        subst hR2
        go_wp2_with fail
        go_quiet (fail)
        go_wp2_with fail
        go_ret
        exact ⟨rfl, Gn.below_drewN HB.out _⟩
    · have hke : n = k := by omega
      subst hke
      have hlt2 : ¬ ((n : Nat) : Int) < ((n : Nat) : Int) := by omega
      have hR2 : R = true := by
        rw [HR.out]
        refine decide_eq_true ?_
        have := HT.out
        rwa [List.take_of_length_le (by rw [← HN1.out]; omega), List.take_of_length_le (by rw [← HN2.out]; omega)] at this
      subst hR2
      clear hb
      go_wp2_with fail
      go_ret
      exact ⟨rfl, HB.out⟩
set_option maxHeartbeats 4000000 in
theorem numbers_any (l m : List Int) (hn : l.length ≤ 1099511627776) (hm : m.length ≤ 1099511627776) (P Q : Nat → Prop) (W : World) (v u : Value) (h : IntsAt P W l v) (k : IntsAt Q W m u) :
    Calls Try.prog 18 #[v, u] W fun e w' => e = .returned (.bool (decide (l = m))) ∧ Below W.heap.size W w' := by
  by_cases hlm : l.length = m.length
  · exact same_any l m hlm hn P Q W v u h k
  rw [decide_eq_false (fun e => hlm (by rw [e]))]
  obtain ⟨A, cap, rfl⟩ := h.form
  obtain ⟨A', cap', rfl⟩ := k.form
  clear h k
  have hne : ¬ ((l.length : Nat) : Int) = ((m.length : Nat) : Int) := by omega
  go_enter Try.func18, Try.ntmps18
  go_wp2_with fail
  go_ret
  exact ⟨rfl, Below.refl _ _⟩
end Go.Proofs.Ytdknlifpoihnmaa.Tr
