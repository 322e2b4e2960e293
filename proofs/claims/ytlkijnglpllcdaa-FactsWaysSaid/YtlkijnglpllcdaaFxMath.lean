/-
  Shortest lengths are told in one way alone: whatever is closed lies below whatever comes of passes.
-/
import Derived.Test.YtlkijnglpllcdaaFxLeast
namespace Go.Proofs.Ytlkijnglpllcdaa.Fx
open Go.RowKit
set_option maxRecDepth 100000

/-- x is told and at most y, where y is told. -/
def LeI (x y : Int) : Prop := y = -1 ∨ (x ≠ -1 ∧ x ≤ y)
theorem LeI.trans {x y z : Int} (h : LeI x y) (k : LeI y z) : LeI x z := by
  rcases k with k | ⟨k1, k2⟩
  · exact .inl k
  · rcases h with h | ⟨h1, h2⟩
    · exact absurd h k1
    · exact .inr ⟨h1, by omega⟩
def LeL (L M : List Int) : Prop := ∀ k, LeI (L.getD k (-1)) (M.getD k (-1))
theorem shOf_le {L M : List Int} (h : LeL L M) (s : Int) : LeI (shOf L s) (shOf M s) := by
  unfold shOf
  split
  · exact .inr ⟨by omega, Int.le_refl _⟩
  · exact h _
theorem shGo_le {L M : List Int} (h : LeL L M) (hL : LensOk L) (hM : LensOk M) : ∀ (r : List Int) (a b : Int), 0 ≤ a → a ≤ b → LeI (shGo L a r) (shGo M b r)
  | [], a, b, h0, hab => by
    rw [shGo, shGo]
    exact .inr ⟨by omega, hab⟩
  | s :: r, a, b, h0, hab => by
    rw [shGo, shGo]
    have h1 := shOf_le h s
    have h2 := shOf_ok hL s
    have h3 := shOf_ok hM s
    by_cases e : shOf M s = -1
    · rw [if_pos e]; exact .inl rfl
    · rcases h1 with h1 | ⟨h1, h4⟩
      · exact absurd h1 e
      · rw [if_neg e, if_neg h1]
        exact shGo_le h hL hM r _ _ (by omega) (by omega)
theorem shRow_le {L M : List Int} (h : LeL L M) (hL : LensOk L) (hM : LensOk M) (r : List Int) : LeI (shRow L r) (shRow M r) := shGo_le h hL hM r 0 0 (by omega) (by omega)
theorem fix_le {g : PG} {L M : List Int} (hL : LensOk L) (hf : Fix g L) (h : Runs g M) : LeL L M := by
  induction h with
  | start =>
    intro k
    left
    rw [List.getD_eq_getElem?_getD]
    rcases Nat.lt_or_ge k g.names.length with h | h
    · rw [List.getElem?_eq_getElem (by simpa using h)]; simp
    · rw [List.getElem?_eq_none (by simpa using h)]; rfl
  | step M p k hM hp hk hk2 h1 h2 ih =>
    intro j
    by_cases e : j = k
    · subst e
      have hl : j < M.length := by rw [(runs_ok hM).1]; exact hk2
      have e1 : (M.set j (shRow M p.right)).getD j (-1) = shRow M p.right := by rw [List.getD_eq_getElem?_getD, List.getElem?_set_self hl]; rfl
      rw [e1]
      rcases shRow_le ih hL (runs_ok hM).2 p.right with h3 | ⟨h3, h4⟩
      · exact absurd h3 h1
      · rcases hf p hp with h5 | ⟨h5, h6⟩
        · exact absurd h5 h3
        · rw [hk] at h5 h6
          exact .inr ⟨by simpa using h5, Int.le_trans (by simpa using h6) h4⟩
    · have e1 : (M.set k (shRow M p.right)).getD j (-1) = M.getD j (-1) := by rw [List.getD_eq_getElem?_getD, List.getElem?_set_ne (by omega), ← List.getD_eq_getElem?_getD]
      rw [e1]
      exact ih j
theorem LeI.antisymm {x y : Int} (h : LeI x y) (k : LeI y x) : x = y := by
  rcases h with h | ⟨h1, h2⟩
  · rcases k with k | ⟨k1, k2⟩
    · rw [h, k]
    · exact absurd h k1
  · rcases k with k | ⟨k1, k2⟩
    · exact absurd k h1
    · omega
theorem least_unique {g : PG} {L M : List Int} (h : Least g L) (k : Least g M) : L = M := by
  have hl := runs_ok h.runs
  have hm := runs_ok k.runs
  have h1 := fix_le hl.2 h.fix k.runs
  have h2 := fix_le hm.2 k.fix h.runs
  refine List.ext_getElem (by rw [hl.1, hm.1]) fun i hi hj => ?_
  have := (h1 i).antisymm (h2 i)
  rw [List.getD_eq_getElem?_getD, List.getD_eq_getElem?_getD, List.getElem?_eq_getElem hi, List.getElem?_eq_getElem hj] at this
  exact this
/-- What closed lengths say of a production all of whose symbols have one. -/
theorem fix_of {g : PG} {L : List Int} (hf : Fix g L) {p : Prd} (hp : p ∈ g.prods) (h : shRow L p.right ≠ -1) : L.getD p.left.toNat (-1) ≠ -1 ∧ L.getD p.left.toNat (-1) ≤ shRow L p.right := by
  rcases hf p hp with h1 | h1
  · exact absurd h1 h
  · exact h1
end Go.Proofs.Ytlkijnglpllcdaa.Fx
