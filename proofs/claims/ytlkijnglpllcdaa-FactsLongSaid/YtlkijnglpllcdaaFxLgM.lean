/-
  FactsLong: the chain that doubles, and its shortest lengths.
-/
import Derived.Test.YtlkijnglpllcdaaFxMath
import Derived.Test.YtlkijnglpllcdaaFxPr
namespace Go.Proofs.Ytlkijnglpllcdaa.Fx
open Go.RowKit
set_option maxRecDepth 100000

/-- The i-th name: two letters. -/
def nm (i : Nat) : ByteArray := ⟨#[UInt8.ofNat (65 + i % 26), UInt8.ofNat (97 + i / 26)]⟩
def pdL (n i : Nat) : Prd := ⟨i, if i = n then [-1] else [(i : Int) + 1, (i : Int) + 1]⟩
def gL (n : Nat) : PG := ⟨0, 0, (List.range (n + 1)).map nm, [⟨#[120]⟩], (List.range (n + 1)).map (pdL n)⟩
theorem gL_sound (n : Nat) (h : 36 ≤ n) (h2 : n ≤ 43) : soundB (gL n) = true := by
  rcases (show n = 36 ∨ n = 37 ∨ n = 38 ∨ n = 39 ∨ n = 40 ∨ n = 41 ∨ n = 42 ∨ n = 43 by omega) with rfl | rfl | rfl | rfl | rfl | rfl | rfl | rfl <;> kernel_rfl
theorem gL_fits (n : Nat) (h2 : n ≤ 43) : (gL n).Fits := by
  refine ⟨⟨?_, ?_, ?_⟩, fun t ht => ?_, fun t ht => ?_, fun p hp => ?_⟩
  · simp [gL]; omega
  · simp [gL]
  · simp [gL]; omega
  · simp [gL] at ht; obtain ⟨i, _, rfl⟩ := ht; show (2 : Nat) ≤ _; decide
  · simp [gL] at ht; subst ht; decide
  · simp [gL] at hp; obtain ⟨i, _, rfl⟩ := hp; unfold pdL; dsimp only; split <;> simp
def dL : Nat → Int
  | 0 => 1
  | j + 1 => min (dL j + dL j) 1099511627776
theorem dL_ok : ∀ j, 1 ≤ dL j ∧ dL j ≤ 1099511627776
  | 0 => by unfold dL; omega
  | j + 1 => by have := dL_ok j; unfold dL; omega
def mL (n : Nat) : List Int := (List.range (n + 1)).map fun i => dL (n - i)
theorem mL_at (n i : Nat) (h : i ≤ n) : (mL n).getD i (-1) = dL (n - i) := by
  rw [List.getD_eq_getElem?_getD, List.getElem?_eq_getElem (by simp [mL]; omega)]
  simp [mL]
theorem two_row (L : List Int) (s : Int) (hs : 0 ≤ s) (d : Int) (h : L.getD s.toNat (-1) = d) (h0 : 0 ≤ d) (h1 : d ≤ 1099511627776) : shRow L [s, s] = min (d + d) 1099511627776 := by
  have e : shOf L s = d := by unfold shOf; rw [if_neg (by omega)]; exact h
  unfold shRow
  rw [shGo, shGo, shGo, e, if_neg (by omega), if_neg (by omega)]
  omega
theorem one_row (L : List Int) : shRow L [-1] = 1 := by
  have e : shOf L (-1) = 1 := by unfold shOf; rw [if_pos (by decide)]
  unfold shRow
  rw [shGo, shGo, e]
  decide
theorem mL_fix (n : Nat) : Fix (gL n) (mL n) := by
  intro p hp
  simp only [gL, List.mem_map, List.mem_range] at hp
  obtain ⟨i, hi, rfl⟩ := hp
  right
  have e0 : ((pdL n i).left).toNat = i := by simp [pdL]
  rw [e0, mL_at n i (by omega)]
  have hd := dL_ok (n - i)
  refine ⟨by omega, ?_⟩
  unfold pdL
  dsimp only
  split
  · rename_i h; subst h
    rw [one_row, Nat.sub_self]
    exact Int.le_refl _
  · have hd2 := dL_ok (n - (i + 1))
    rw [two_row (mL n) ((i : Int) + 1) (by omega) (dL (n - (i + 1))) (by rw [show ((i : Int) + 1).toNat = i + 1 by omega]; exact mL_at n (i + 1) (by omega)) (by omega) hd2.2]
    rw [show n - i = (n - (i + 1)) + 1 by omega]
    exact Int.le_refl _
theorem mL_lens (n : Nat) : LensOk (mL n) := fun x hx => by
  simp only [mL, List.mem_map] at hx
  obtain ⟨i, _, rfl⟩ := hx
  have := dL_ok (n - i); omega
theorem long_le {n : Nat} {L : List Int} (h : Least (gL n) L) : ∀ j, j ≤ n → L.getD (n - j) (-1) ≠ -1 ∧ L.getD (n - j) (-1) ≤ dL j
  | 0, _ => by
    have := fix_of h.fix (p := pdL n n) (by simp only [gL, List.mem_map, List.mem_range]; exact ⟨n, by omega, rfl⟩) (by unfold pdL; simp only [if_true]; rw [one_row]; decide)
    rw [show (pdL n n).right = [-1] by simp [pdL], one_row, show (pdL n n).left.toNat = n by simp [pdL]] at this
    exact this
  | j + 1, hj => by
    have ih := long_le h j (by omega)
    have hok := (runs_ok h.runs).2
    have hl := (runs_ok h.runs).1
    have hd := dL_ok j
    obtain ⟨i, hi⟩ : ∃ i, i = n - (j + 1) := ⟨_, rfl⟩
    have hr : (pdL n i).right = [(i : Int) + 1, (i : Int) + 1] := by unfold pdL; dsimp only; rw [if_neg (by omega)]
    have hx : 0 ≤ L.getD (n - j) (-1) := by
      have hlen : n - j < L.length := by rw [hl]; simp [gL]; omega
      have := hok (L.getD (n - j) (-1)) (by rw [List.getD_eq_getElem?_getD, List.getElem?_eq_getElem hlen]; exact List.getElem_mem hlen)
      omega
    have ht := two_row L ((i : Int) + 1) (by omega) (L.getD (n - j) (-1)) (by rw [show ((i : Int) + 1).toNat = n - j by omega]) hx (by omega)
    have := fix_of h.fix (p := pdL n i) (by simp only [gL, List.mem_map, List.mem_range]; exact ⟨i, by omega, rfl⟩) (by rw [hr, ht]; omega)
    rw [hr, ht, show (pdL n i).left.toNat = i by simp [pdL]] at this
    rw [← hi]
    refine ⟨this.1, ?_⟩
    show _ ≤ min (dL j + dL j) 1099511627776
    omega
theorem long_is {n : Nat} {L : List Int} (h : Least (gL n) L) (j : Nat) (hj : j ≤ n) : L.getD (n - j) (-1) = dL j := by
  have h1 := long_le h j hj
  rcases (fix_le (mL_lens n) (mL_fix n) h.runs) (n - j) with h2 | ⟨_, h2⟩
  · exact absurd h2 h1.1
  · rw [mL_at n (n - j) (by omega), show n - (n - j) = j by omega] at h2
    omega
theorem dL_top (n : Nat) (h : 36 ≤ n) (h2 : n ≤ 43) : dL n = min (2 ^ n) 1099511627776 := by
  rcases (show n = 36 ∨ n = 37 ∨ n = 38 ∨ n = 39 ∨ n = 40 ∨ n = 41 ∨ n = 42 ∨ n = 43 by omega) with rfl | rfl | rfl | rfl | rfl | rfl | rfl | rfl <;> decide +kernel
end Go.Proofs.Ytlkijnglpllcdaa.Fx
