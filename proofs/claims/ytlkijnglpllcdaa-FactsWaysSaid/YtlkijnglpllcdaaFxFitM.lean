/-
  What is told of a grammar fits: lengths, first terminals, and what is come to.
-/
import Derived.Test.YtlkijnglpllcdaaFxMath
import Derived.Test.YtlkijnglpllcdaaFxFirst
namespace Go.Proofs.Ytlkijnglpllcdaa.Fx
open Go.RowKit
set_option maxRecDepth 100000

theorem Come.trans {S : Nat → List Int} {l : List Int} {a : Nat} {x : Int} (h : Come S l (a : Int)) (k : Come S (S a) x) : Come S l x := by
  induction k with
  | base x hx => exact .step a x h hx
  | step b y _ hy ih => exact .step b y ih hy
theorem come_nil {S : Nat → List Int} {x : Int} (h : Come S [] x) : False := by
  induction h with
  | base x hx => cases hx
  | step b y _ _ ih => exact ih
theorem goS_in {φ : List Int → List Int} {ps : List Prd} {p : Prd} {a : Nat} {y : Int} (hp : p ∈ ps) (hl : p.left = (a : Int)) (hy : y ∈ φ p.right) : y ∈ goS φ ps a := by
  unfold goS
  exact List.mem_flatMap.2 ⟨p, List.mem_filter.2 ⟨hp, by simp [hl]⟩, hy⟩
theorem goS_back {φ : List Int → List Int} {ps : List Prd} {a : Nat} {y : Int} (h : y ∈ goS φ ps a) : ∃ p ∈ ps, p.left = (a : Int) ∧ y ∈ φ p.right := by
  unfold goS at h
  obtain ⟨p, hp, hy⟩ := List.mem_flatMap.1 h
  obtain ⟨h1, h2⟩ := List.mem_filter.1 hp
  exact ⟨p, h1, by simpa using h2, hy⟩

/-- A row that is of some length has, ahead, a symbol of some length. -/
theorem shGo_pos {L : List Int} (hL : LensOk L) : ∀ (r : List Int) (a : Int), 0 ≤ a → shGo L a r ≠ -1 → a < shGo L a r → ∃ s ∈ aheadGo L r, 0 < shOf L s
  | [], a, h0, h1, h2 => by rw [shGo] at h2; omega
  | s :: r, a, h0, h1, h2 => by
    rw [shGo] at h1 h2
    by_cases e : shOf L s = -1
    · rw [if_pos e] at h1; exact absurd rfl h1
    · rw [if_neg e] at h1 h2
      have h3 := shOf_ok hL s
      rw [aheadGo]
      by_cases e2 : 0 < shOf L s
      · exact ⟨s, by rw [if_pos e2]; simp, e2⟩
      · have e3 : shOf L s = 0 := by omega
        rw [e3] at h1 h2
        by_cases e4 : a ≤ 1099511627776
        · rw [show min (a + 0) 1099511627776 = a by omega] at h1 h2
          obtain ⟨t, ht, ht2⟩ := shGo_pos hL r a h0 h1 h2
          exact ⟨t, by rw [if_neg e2]; exact List.mem_cons_of_mem _ ht, ht2⟩
        · have := shGo_ok hL r (min (a + 0) 1099511627776) (by omega) (by omega)
          omega
/-- Every symbol of a row that has a length has one. -/
theorem shGo_each {L : List Int} : ∀ (r : List Int) (a : Int), shGo L a r ≠ -1 → ∀ s ∈ r, shOf L s ≠ -1
  | [], a, h, s, hs => by cases hs
  | s :: r, a, h, x, hx => by
    rw [shGo] at h
    by_cases e : shOf L s = -1
    · rw [if_pos e] at h; exact absurd rfl h
    · rw [if_neg e] at h
      rcases List.mem_cons.1 hx with rfl | hx
      · exact e
      · exact shGo_each r _ h x hx
theorem first_some {g : PG} {L : List Int} (h : Least g L) {M : List Int} (hM : Runs g M) : ∀ a : Nat, M.getD a (-1) ≠ -1 → 0 < L.getD a (-1) → ∃ x, x < 0 ∧ Come (goS (aheadL L) g.prods) (goS (aheadL L) g.prods a) x := by
  have hLo := (runs_ok h.runs).2
  induction hM with
  | start =>
    intro a h1
    exfalso
    apply h1
    rw [List.getD_eq_getElem?_getD]
    rcases Nat.lt_or_ge a g.names.length with h | h
    · rw [List.getElem?_eq_getElem (by simpa using h)]; simp
    · rw [List.getElem?_eq_none (by simpa using h)]; rfl
  | step M p k hM hp hk hk2 h1 h2 ih =>
    intro a h3 h4
    by_cases e : a = k
    · subst e
      have hle := fix_le hLo h.fix hM
      have h5 : shRow L p.right ≠ -1 := by
        rcases shRow_le hle hLo (runs_ok hM).2 p.right with h6 | ⟨h6, _⟩
        · exact absurd h6 h1
        · exact h6
      have h6 := fix_of h.fix hp h5
      rw [hk] at h6
      have h7 : 0 < shRow L p.right := by
        have := h6.2
        rw [show ((a : Int).toNat) = a by omega] at this
        omega
      obtain ⟨s, hs, hs2⟩ := shGo_pos hLo p.right 0 (by omega) h5 h7
      have hin : s ∈ goS (aheadL L) g.prods a := goS_in hp hk (by unfold aheadL; rw [if_neg h5]; exact hs)
      by_cases e2 : s < 0
      · exact ⟨s, e2, .base s hin⟩
      · have hsM := shGo_each p.right 0 h1 s (aheadGo_mem L _ hs)
        unfold shOf at hsM hs2
        rw [if_neg e2] at hsM hs2
        obtain ⟨x, hx, hc⟩ := ih s.toNat hsM hs2
        exact ⟨x, hx, Come.trans (.base _ (by rw [show ((s.toNat : Nat) : Int) = s by omega]; exact hin)) hc⟩
    · have e1 : (M.set k (shRow M p.right)).getD a (-1) = M.getD a (-1) := by rw [List.getD_eq_getElem?_getD, List.getElem?_set_ne (by omega), ← List.getD_eq_getElem?_getD]
      rw [e1] at h3
      exact ih a h3 h4
/-- Who has a word of some length has a first terminal. -/
theorem fit_first {g : PG} {L : List Int} (h : Least g L) {a : Nat} (ha : 0 < L.getD a (-1)) {l : List Int} (hl : firstT g L a l) : l ≠ [] := by
  obtain ⟨M, hM, hC⟩ := hl
  obtain ⟨x, hx, hc⟩ := first_some h h.runs a (by omega) ha
  intro e
  have := (hM.2 (-1 - x)).2 ⟨by omega, by rw [show -1 - (-1 - x) = x by omega]; exact (hC x).2 hc⟩
  rw [e] at this
  cases this
/-- Who has no word has none. -/
theorem fit_none {g : PG} {L : List Int} (h : Least g L) {a : Nat} (ha : L.getD a (-1) = -1) {l : List Int} (hl : firstT g L a l) : l = [] := by
  obtain ⟨M, hM, hC⟩ := hl
  have hn : goS (aheadL L) g.prods a = [] := by
    rw [List.eq_nil_iff_forall_not_mem]
    intro y hy
    obtain ⟨p, hp, hk, hy⟩ := goS_back hy
    unfold aheadL at hy
    by_cases e : shRow L p.right = -1
    · rw [if_pos e] at hy; cases hy
    · have := (fix_of h.fix hp e).1
      rw [hk] at this
      exact this (by simpa using ha)
  rw [List.eq_nil_iff_forall_not_mem]
  intro t ht
  have := (hC _).1 ((hM.2 t).1 ht).2
  rw [hn] at this
  exact come_nil this
/-- How long a symbol is, as the law adds it up. -/
def wOf (L : List Int) (s : Int) : Int := if s < 0 then 1 else max (L.getD s.toNat (-1)) 0
def sumW (L : List Int) (r : List Int) : Int := (r.map (wOf L)).sum
def okB (L : List Int) (r : List Int) : Bool := r.all fun s => decide (s < 0) || (L.getD s.toNat (-1) != -1)
theorem sumW_snoc (L r : List Int) (s : Int) : sumW L (r ++ [s]) = sumW L r + wOf L s := by simp [sumW]
theorem okB_snoc (L r : List Int) (s : Int) : okB L (r ++ [s]) = (okB L r && (decide (s < 0) || (L.getD s.toNat (-1) != -1))) := by simp [okB]
theorem wOf_ok {L : List Int} (h : LensOk L) (s : Int) : 0 ≤ wOf L s ∧ wOf L s ≤ 1099511627776 := by
  have := shOf_ok h s
  unfold shOf at this
  unfold wOf
  split at this <;> rename_i e
  · rw [if_pos e]; omega
  · rw [if_neg e]; omega
theorem sumW_ok {L : List Int} (h : LensOk L) : ∀ r : List Int, 0 ≤ sumW L r ∧ sumW L r ≤ 1099511627776 * r.length
  | [] => by simp [sumW]
  | s :: r => by
    have h1 := wOf_ok h s
    have h2 := sumW_ok h r
    have e : sumW L (s :: r) = wOf L s + sumW L r := by simp [sumW]
    rw [e, List.length_cons]
    omega
theorem shGo_sum {L : List Int} (hL : LensOk L) : ∀ (r : List Int) (a : Int), 0 ≤ a → okB L r = true → shGo L a r ≠ -1 ∧ shGo L a r ≤ a + sumW L r
  | [], a, h0, h => by rw [shGo]; simp [sumW]; omega
  | s :: r, a, h0, h => by
    have h3 := shOf_ok hL s
    have e : sumW L (s :: r) = wOf L s + sumW L r := by simp [sumW]
    have e2 : okB L (s :: r) = ((decide (s < 0) || (L.getD s.toNat (-1) != -1)) && okB L r) := by simp [okB]
    rw [e2, Bool.and_eq_true] at h
    have h4 : shOf L s ≠ -1 ∧ wOf L s = shOf L s := by
      unfold shOf at h3 ⊢
      unfold wOf
      by_cases e3 : s < 0
      · rw [if_pos e3, if_pos e3]; omega
      · rw [if_neg e3] at h3 ⊢
        rw [if_neg e3]
        have h5 : L.getD s.toNat (-1) ≠ -1 := by
          have := h.1
          simp [e3] at this
          simpa using this
        omega
    rw [shGo, if_neg h4.1, e, h4.2]
    have ih := shGo_sum hL r (min (a + shOf L s) 1099511627776) (by omega) h.2
    omega
theorem fit_sum {g : PG} {L : List Int} (h : Least g L) {p : Prd} (hp : p ∈ g.prods) (ho : okB L p.right = true) : L.getD p.left.toNat (-1) ≠ -1 ∧ L.getD p.left.toNat (-1) ≤ sumW L p.right := by
  have h1 := shGo_sum (runs_ok h.runs).2 p.right 0 (by omega) ho
  have h2 := fix_of h.fix hp h1.1
  exact ⟨h2.1, by have := h2.2; have h3 := h1.2; unfold shRow at this; omega⟩
/-- What is come to keeps to what it uses. -/
theorem fit_reach {g : PG} {p : Prd} (hp : p ∈ g.prods) {a : Nat} (ha : p.left = (a : Int)) {s : Int} (hs : s ∈ p.right) {l : List Int} (h : Come (goS id g.prods) l (a : Int)) : Come (goS id g.prods) l s :=
  .step a s h (goS_in hp ha hs)
end Go.Proofs.Ytlkijnglpllcdaa.Fx
