/-
  The walks of shortestOf and shortestRow.
-/
import Derived.Test.YtlkijnglpllcdaaFxRow
import Derived.WalkLawsBesides
namespace Go.Proofs.Ytlkijnglpllcdaa.Fx
open Go.RowKit
set_option maxRecDepth 100000

/-- How short a word of a symbol is, by the nonterminals' lengths; -1. -/
def shOf (L : List Int) (s : Int) : Int := if s < 0 then 1 else L.getD s.toNat (-1)
/-- .. of a row of symbols, so many being there already; up to a bound. -/
def shGo (L : List Int) : Int → List Int → Int
  | a, [] => a
  | a, s :: r => if shOf L s = -1 then -1 else shGo L (min (a + shOf L s) 1099511627776) r
def shRow (L : List Int) (l : List Int) : Int := shGo L 0 l
/-- Lengths, and that there is none. -/
def LensOk (L : List Int) : Prop := ∀ x ∈ L, -1 ≤ x ∧ x ≤ 1099511627776
theorem shOf_ok {L : List Int} (h : LensOk L) (s : Int) : -1 ≤ shOf L s ∧ shOf L s ≤ 1099511627776 := by
  unfold shOf
  split
  · omega
  · rcases Nat.lt_or_ge s.toNat L.length with h1 | h1
    · rw [List.getD_eq_getElem?_getD, List.getElem?_eq_getElem h1]
      exact h _ (List.getElem_mem h1)
    · rw [List.getD_eq_getElem?_getD, List.getElem?_eq_none h1]
      simp

theorem shortOf_any (L : List Int) (s : Int) (hs : s < (L.length : Int)) (P : Nat → Prop) (W : World) (v : Value) (h : IntsAt P W L v) :
    Calls Try.prog 46 #[.int .i64 s, v] W fun e w' => e = .returned (.int .i64 (shOf L s)) ∧ W = w' := by
  obtain ⟨A, cap, b, rfl, hcap, h3, h4⟩ := h
  obtain ⟨R, hR⟩ : ∃ R, R = shOf L s := ⟨_, rfl⟩
  rw [← hR]
  by_cases h0 : s < 0
  · have HT := Lib.hid (show R = 1 by rw [hR, shOf, if_pos h0])
    clear hR h3 h4 hs
    go_enter Try.func46, Try.ntmps46
    go_wp2
    go_ret
    exact ⟨by rw [HT.out]; rfl, rfl⟩
  · obtain ⟨k, rfl⟩ : ∃ k : Nat, s = k := ⟨s.toNat, by omega⟩
    have hk : k < L.length := by omega
    obtain ⟨rfl, _⟩ := h3 (by omega)
    have hc := h4 k hk
    have hR2 : R = L[k] := by rw [hR, shOf, if_neg h0, Int.toNat_natCast, List.getD_eq_getElem?_getD, List.getElem?_eq_getElem hk]; rfl
    rw [← hR2] at hc
    have i0 : (0 : Int) ≤ (k : Int) := by omega
    obtain ⟨n, hn⟩ : ∃ n, n = L.length := ⟨_, rfl⟩
    rw [← hn] at hs hcap ⊢
    clear hR hR2 h3 h4 hn hk
    go_enter Try.func46, Try.ntmps46
    go_wp2
    go_ret
    exact ⟨rfl, rfl⟩

set_option maxHeartbeats 2000000 in
theorem shortRow_any (L l : List Int) (hL : LensOk L) (hl : ∀ s ∈ l, s < (L.length : Int)) (hn : l.length ≤ 1048576) (P Q : Nat → Prop) (W : World) (v u : Value) (h : IntsAt P W l v) (hu : IntsAt Q W L u) :
    Calls Try.prog 24 #[v, u] W fun e w' => e = .returned (.int .i64 (shRow L l)) ∧ W = w' := by
  have KS := fun s (hs : s < (L.length : Int)) => shortOf_any L s hs Q W u hu
  obtain ⟨A, cap, b, rfl, hcap, h3, h4⟩ := h
  obtain ⟨B, cb, rfl⟩ := hu.form
  obtain ⟨R, hR⟩ : ∃ R, R = shRow L l := ⟨_, rfl⟩
  rw [← hR]
  have HR := Lib.hid hR
  obtain ⟨n, hn1⟩ : ∃ n, n = l.length := ⟨_, rfl⟩
  rw [← hn1] at hcap h3 hn ⊢
  have HN1 := Lib.hid hn1
  have H3 := Lib.hid h3
  have H4 := Lib.hid h4
  have HL := Lib.hid hl
  have HKS := Lib.hid KS
  have HOK := Lib.hid hL
  generalize L.length = nl at HL HKS ⊢
  clear hR hn1 h3 h4 hl KS hu hL
  go_enter Try.func24, Try.ntmps24
  go_wp2
  go_loop [11, 5] (fun i a => ∃ (k : Nat) (s : Int), k ≤ n ∧ i = .int .i64 k ∧ a = .int .i64 s ∧ 0 ≤ s ∧ s ≤ 1099511627776 ∧ shGo L s (l.drop k) = R) (fun i _ => n - (intOf i).toNat)
  case atStart => exact ⟨0, 0, Nat.zero_le _, rfl, rfl, by omega, by omega, HR.out.symm⟩
  case round =>
    obtain ⟨k, s, hk, rfl, rfl, hs0, hs1, hE⟩ := hrel
    have HE := Lib.hid hE
    clear hE
    by_cases hlt : k < n
    · have h1 : k < l.length := by rw [← HN1.out]; exact hlt
      obtain ⟨rfl, hr, _⟩ := H3.out (by omega)
      have x0 := H4.out k h1
      have hst := HE.out
      rw [List.drop_eq_getElem_cons h1, shGo] at hst
      have KC := HKS.out l[k] (HL.out _ (List.getElem_mem h1))
      obtain ⟨o1, o2⟩ := shOf_ok HOK.out l[k]
      obtain ⟨z, hz⟩ : ∃ z, z = l[k] := ⟨_, rfl⟩
      rw [← hz] at x0 KC hst o1 o2
      obtain ⟨c, hc⟩ : ∃ c, c = shOf L z := ⟨_, rfl⟩
      rw [← hc] at KC hst o1 o2
      have HST := Lib.hid hst
      have HKC := Lib.hid KC
      clear hst KC hz hc
      by_cases hm : c = -1
      · have HT := Lib.hid (show R = -1 by rw [← HST.out, if_pos hm])
        have e1 : ((c : Int) == -1) = true := by rw [hm]; rfl
        clear hm
        go_wp2_with fail
        refine HKC.out.mono ?_
        rintro e w3 ⟨rfl, rfl⟩
        go_wp2
        go_ret
        exact ⟨by rw [HT.out]; rfl, rfl⟩
      · have HT := Lib.hid (show shGo L (min (s + c) 1099511627776) (l.drop (k + 1)) = R by rw [← HST.out, if_neg hm])
        have e1 : ((c : Int) == -1) = false := by rw [beq_eq_false_iff_ne]; exact hm
        have hc0 : 0 ≤ c := by omega
        clear hm
        go_wp2_with fail
        refine HKC.out.mono ?_
        rintro e w3 ⟨rfl, rfl⟩
        go_wp2
        go_round
        case rel => exact ⟨k + 1, (min (s + c) 1099511627776), by omega, by simp, rfl, by omega, by omega, HT.out⟩
        case measure => simp [intOf]; omega
    · have HT := Lib.hid (show R = s by rw [← HE.out, List.drop_eq_nil_of_le (by have := HN1.out; omega)]; rfl)
      go_wp2
      go_ret
      exact ⟨by rw [HT.out]; rfl, rfl⟩
end Go.Proofs.Ytlkijnglpllcdaa.Fx
