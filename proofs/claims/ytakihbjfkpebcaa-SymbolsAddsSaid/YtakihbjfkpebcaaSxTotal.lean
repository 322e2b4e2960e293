/-
  Layer 5 in plain words: with fuel enough there is an answer.
-/
import Derived.Test.YtakihbjfkpebcaaSxSpec
namespace Go.Proofs.Ytakihbjfkpebcaa.Sx
open Lx (Tk)
set_option maxRecDepth 100000
variable {α β : Type}

theorem kind_lt {ts : List Tk} {i : Nat} (h : (tkAt ts i).kind ≠ 4) : i < ts.length := by
  rcases Nat.lt_or_ge i ts.length with h1 | h1
  · exact h1
  · exfalso; apply h; unfold tkAt; rw [List.getD_eq_getElem?_getD, List.getElem?_eq_none h1]; rfl
theorem isSg_lt {ts : List Tk} {i : Nat} {c : UInt8} (h : isSg ts i c = true) : i < ts.length := by
  unfold isSg at h
  simp only [Bool.and_eq_true, decide_eq_true_eq] at h
  exact kind_lt (by rw [h.1]; decide)
theorem clos_lt {ts : List Tk} {i : Nat} {c : UInt8} (h : clos ts i = some c) : i < ts.length := by
  unfold clos at h
  split at h
  · rename_i h1; exact isSg_lt h1
  · split at h
    · rename_i h1; exact isSg_lt h1
    · split at h
      · rename_i h1; exact isSg_lt h1
      · cases h
theorem starts_lt {ts : List Tk} {i : Nat} (h : starts ts i = true) : i < ts.length := by
  unfold starts at h
  simp only [Bool.or_eq_true, decide_eq_true_eq] at h
  rcases h with (h | h) | h
  · exact kind_lt (by rw [h]; decide)
  · exact kind_lt (by rw [h]; decide)
  · obtain ⟨c, hc⟩ := Option.isSome_iff_exists.1 h
    exact clos_lt hc
theorem tak_at {ts : List Tk} {i j : Nat} {u : Unit} (h : tak ts i = .ok u j) : j = i + 1 := by
  unfold tak at h
  split at h
  · unfold Res.bad at h; cases h
  · injection h with _ h; exact h.symm
theorem need_at {ts : List Tk} {i j : Nat} {c : UInt8} {u : Unit} (h : need ts i c = .ok u j) : j = i + 1 ∧ i < ts.length := by
  unfold need at h
  split at h
  · rename_i h1; exact ⟨tak_at h, isSg_lt h1⟩
  · unfold Res.bad at h; cases h

/-- There is an answer, and it goes on from i, by at least k tokens. -/
def Has (x : Option (Res α)) (i k : Nat) : Prop := ∃ R, x = some R ∧ ∀ v j, R = .ok v j → i + k ≤ j
theorem has_bind {x : Option (Res α)} {i k : Nat} {f : α → Nat → Option (Res β)} {k2 : Nat} (hx : Has x i k) (hf : ∀ v j, i + k ≤ j → Has (f v j) i k2) : Has (x.bind fun r => r.bind f) i k2 := by
  obtain ⟨R, rfl, hR⟩ := hx
  cases R with
  | no l c e => exact ⟨.no l c e, rfl, fun v j h => by cases h⟩
  | ok v j => exact hf v j (hR v j rfl)
theorem has_res {x : Res α} {i : Nat} {f : α → Nat → Option (Res β)} {k2 : Nat} (hf : ∀ v j, x = .ok v j → Has (f v j) i k2) : Has (x.bind f) i k2 := by
  cases x with
  | no l c e => exact ⟨.no l c e, rfl, fun v j h => by cases h⟩
  | ok v j => exact hf v j rfl
theorem Has.mono {x : Option (Res α)} {i k i' k' : Nat} (h : Has x i k) (h2 : i' + k' ≤ i + k) : Has x i' k' := by
  obtain ⟨R, hx, hR⟩ := h
  exact ⟨R, hx, fun v j e => by have := hR v j e; omega⟩
theorem has_ok (v : α) (i j k : Nat) (h : i + k ≤ j) : Has (some (Res.ok v j)) i k := ⟨_, rfl, fun v' j' e => by injection e with _ e; omega⟩
theorem has_bad (ts : List Tk) (i i' code k : Nat) : Has (some (Res.bad (α := α) ts i' code)) i k := ⟨_, rfl, fun v j e => by unfold Res.bad at e; cases e⟩

theorem total (ts : List Tk) : ∀ f m : Nat,
    (6 * m + 6 ≤ f → ∀ d i, ts.length - i ≤ m → Has (pAlt ts f d i) i 0) ∧
    (6 * m + 5 ≤ f → ∀ d i acc, ts.length - i ≤ m → Has (pMore ts f d i acc) i 0) ∧
    (6 * m + 5 ≤ f → ∀ d i, ts.length - i ≤ m → Has (pRow ts f d i) i 0) ∧
    (6 * m + 4 ≤ f → ∀ d i acc, ts.length - i ≤ m → Has (pItems ts f d i acc) i 0) ∧
    (6 * m + 3 ≤ f → ∀ d i, ts.length - i ≤ m → starts ts i = true → Has (pItem ts f d i) i 1) ∧
    (6 * m + 2 ≤ f → ∀ d i, ts.length - i ≤ m → starts ts i = true → Has (pAtom ts f d i) i 1)
  | 0, m => ⟨fun h => absurd h (by omega), fun h => absurd h (by omega), fun h => absurd h (by omega), fun h => absurd h (by omega), fun h => absurd h (by omega), fun h => absurd h (by omega)⟩
  | f + 1, m => by
    obtain ⟨ih1, ih2, ih3, ih4, ih5, ih6⟩ := total ts f m
    refine ⟨fun hf d i hm => ?_, fun hf d i acc hm => ?_, fun hf d i hm => ?_, fun hf d i acc hm => ?_, fun hf d i hm hs => ?_, fun hf d i hm hs => ?_⟩
    · rw [pAlt]
      exact has_bind (ih3 (by omega) d i hm) fun t j hj => (ih2 (by omega) d j [t] (by omega)).mono (by omega)
    · rw [pMore]
      split
      · rename_i hsg
        have hi := isSg_lt hsg
        obtain ⟨_, ih2', ih3', _⟩ := total ts f (m - 1)
        refine has_res fun u j e => ?_
        have hj := tak_at e
        refine has_bind ((ih3' (by omega) d j (by omega)).mono (i' := i) (k' := 1) (by omega)) fun t k hk => ?_
        exact (ih2' (by omega) d k _ (by omega)).mono (by omega)
      · exact has_ok _ _ _ _ (by omega)
    · rw [pRow]
      exact ih4 (by omega) d i [] hm
    · rw [pItems]
      split
      · rename_i hst
        have hi := starts_lt hst
        refine has_bind (ih5 (by omega) d i hm hst) fun t j hj => ?_
        obtain ⟨_, _, _, ih4', _⟩ := total ts f (m - 1)
        exact (ih4' (by omega) d j _ (by omega)).mono (by omega)
      · exact has_ok _ _ _ _ (by omega)
    · rw [pItem]
      refine has_bind (ih6 (by omega) d i hm hs) fun t j hj => ?_
      split
      · refine has_res fun u k e => ?_
        have := tak_at e
        exact has_ok _ _ _ _ (by omega)
      · split
        · refine has_res fun u k e => ?_
          have := tak_at e
          exact has_ok _ _ _ _ (by omega)
        · split
          · refine has_res fun u k e => ?_
            have := tak_at e
            exact has_ok _ _ _ _ (by omega)
          · exact has_ok _ _ _ _ (by omega)
    · rw [pAtom]
      split
      · refine has_res fun u k e => ?_
        have := tak_at e
        exact has_ok _ _ _ _ (by omega)
      · rename_i h1
        split
        · refine has_res fun u k e => ?_
          have := tak_at e
          exact has_ok _ _ _ _ (by omega)
        · rename_i h2
          have hcs : (clos ts i).isSome = true := by
            unfold starts at hs
            simpa [h1, h2] using hs
          obtain ⟨c, hc⟩ := Option.isSome_iff_exists.1 hcs
          rw [hc]
          have hi := clos_lt hc
          simp only
          split
          · exact has_bad _ _ _ _ _
          · obtain ⟨ih1', _⟩ := total ts f (m - 1)
            refine has_res fun u j e => ?_
            have hj := tak_at e
            refine has_bind ((ih1' (by omega) (d + 1) j (by omega)).mono (i' := i) (k' := 1) (by omega)) fun t k hk => ?_
            refine has_res fun u2 o e2 => ?_
            have := need_at e2
            exact has_ok _ _ _ _ (by omega)

theorem nam_at {ts : List Tk} {i j : Nat} {n : List UInt8} (h : nam ts i = .ok n j) : j = i + 1 ∧ i < ts.length := by
  unfold nam at h
  split at h
  · rename_i h1
    have hi := kind_lt (ts := ts) (i := i) (by rw [h1]; decide)
    cases e : tak ts i with
    | no l c e' => rw [e] at h; cases h
    | ok u k =>
      rw [e] at h
      injection h with _ h
      have := tak_at e
      omega
  · unfold Res.bad at h; cases h
theorem rule_total (ts : List Tk) (f i : Nat) (hf : 6 * ts.length + 6 ≤ f) : Has (pRule ts f i) i 1 := by
  unfold pRule
  refine has_res fun n j e => ?_
  have h1 := nam_at e
  refine has_res fun u k e2 => ?_
  have h2 := need_at e2
  obtain ⟨ih1, _⟩ := total ts f ts.length
  refine has_bind ((ih1 hf 0 k (by omega)).mono (i' := i) (k' := 1) (by omega)) fun t m hm => ?_
  refine has_res fun u2 o e3 => ?_
  have h3 := need_at e3
  exact has_ok _ _ _ _ (by omega)
theorem rules_total (ts : List Tk) : ∀ (f i : Nat) (acc : List (List UInt8 × Tree)), 6 * ts.length + 7 + (ts.length - i) ≤ f → Has (pRules ts f i acc) i 0
  | 0, i, acc, h => absurd h (by omega)
  | f + 1, i, acc, h => by
    rw [pRules]
    split
    · split
      · exact has_bad _ _ _ _ _
      · obtain ⟨R, hR, hj⟩ := rule_total ts f i (by omega)
        rw [hR]
        cases R with
        | no l c e => exact ⟨.no l c e, rfl, fun v j h => by cases h⟩
        | ok v j =>
          have h1 := hj v j rfl
          by_cases hi : i < ts.length
          · exact (rules_total ts f j _ (by omega)).mono (by omega)
          · exfalso
            unfold pRule nam at hR
            rw [if_neg (by intro e; exact hi (kind_lt (by rw [e]; decide)))] at hR
            unfold Res.bad Res.bind at hR
            cases hR
    · exact has_ok _ _ _ _ (by omega)
theorem gram_total (ts : List Tk) : ∃ R, pGram ts (7 * ts.length + 8) = some R := by
  have : Has (pGram ts (7 * ts.length + 8)) 0 0 := by
    unfold pGram
    split
    · refine has_res fun u i e => ?_
      refine has_res fun n j e2 => ?_
      refine has_res fun u2 k e3 => ?_
      refine has_bind ((rules_total ts _ k [] (by omega)).mono (i' := 0) (k' := 0) (by omega)) fun rs m hm => ?_
      exact has_ok _ _ _ _ (by omega)
    · refine has_bind (rules_total ts _ 0 [] (by omega)) fun rs m hm => ?_
      exact has_ok _ _ _ _ (by omega)
  obtain ⟨R, h, _⟩ := this
  exact ⟨R, h⟩

end Go.Proofs.Ytakihbjfkpebcaa.Sx
