/-
  Layer 14: the law's grown trees, by plain words.
-/
import Derived.Test.YtjlppffkacimoaaTrSame
namespace Go.Proofs.Ytjlppffkacimoaa.Tr
open Go.RowKit
open Fx (Prd PG)
set_option maxRecDepth 100000
set_option linter.unusedSimpArgs false
set_option linter.unusedVariables false

def prd0 : Prd := ⟨0, []⟩
/-- The productions of a symbol, of the first i. -/
def ownT (g : PG) (s : Int) : Nat → List Nat
  | 0 => []
  | i + 1 => if (g.prods.getD i prd0).left = s then ownT g s i ++ [i] else ownT g s i
theorem own_mem {g : PG} {s : Int} : ∀ (i k : Nat), k ∈ ownT g s i → k < i ∧ (g.prods.getD k prd0).left = s
  | 0, k, h => by rw [ownT] at h; cases h
  | i + 1, k, h => by
    rw [ownT] at h
    split at h
    · rename_i e
      rcases List.mem_append.1 h with h | h
      · have := own_mem i k h; exact ⟨by omega, this.2⟩
      · rw [List.mem_singleton] at h
        subst h
        exact ⟨by omega, e⟩
    · have := own_mem i k h; exact ⟨by omega, this.2⟩
theorem own_le (g : PG) (s : Int) : ∀ i, (ownT g s i).length ≤ i
  | 0 => Nat.le_refl _
  | i + 1 => by
    rw [ownT]
    have := own_le g s i
    split
    · rw [List.length_append, List.length_singleton]; omega
    · omega
theorem rem_inT (z : Int) (n : Nat) (hn : 1 ≤ n) : ∃ q1 q2, z.tmod (n : Int) = q1 ∧ -(n : Int) < q1 ∧ q1 < n ∧ (q1 + (n : Int)).tmod (n : Int) = q2 ∧ (q1 + (n : Int)) % (n : Int) = q2 ∧ 0 ≤ q2 ∧ q2 < n := by
  have h2 := Int.tmod_lt_of_pos (-z) (show (0 : Int) < n by omega)
  have h3 := Int.tmod_lt_of_pos z (show (0 : Int) < n by omega)
  rw [Int.neg_tmod] at h2
  obtain ⟨q1, e1⟩ : ∃ q1, z.tmod (n : Int) = q1 := ⟨_, rfl⟩
  rw [e1] at h2 h3
  have h4 : 0 ≤ q1 + (n : Int) := by omega
  exact ⟨q1, _, e1, by omega, h3, rfl, (Int.tmod_eq_emod_of_nonneg h4).symm, Int.tmod_nonneg _ h4, Int.tmod_lt_of_pos _ (by omega)⟩
def pickT (z : Int) (L : Nat) : Nat := ((z.tmod L + L).tmod L).toNat
theorem pick_lt (z : Int) (L : Nat) (h : 1 ≤ L) : pickT z L < L := by
  obtain ⟨q1, q2, e1, h1, h2, e2, e3, h3, h4⟩ := rem_inT z L h
  unfold pickT
  rw [e1, e2]
  omega
def growKids (T : Int → Nat → Option (Tr × Nat)) : List Int → Nat → List Tr → Option (List Tr × Nat)
  | [], k, acc => some (acc, k)
  | y :: ys, k, acc => match T y k with
    | none => none
    | some (t, k') => growKids T ys k' (acc ++ [t])
def wrapG (n : Int) : Option (List Tr × Nat) → Option (Tr × Nat)
  | none => none
  | some (l, k) => some (.mk n l, k)
/-- The tree that choices tell. -/
def grownT (g : PG) (cs : List Int) : Nat → Int → Nat → Option (Tr × Nat)
  | 0, _, _ => none
  | f + 1, s, k => if s < 0 then some (.mk s [], k) else if cs.length ≤ k ∨ 60 < k then none else
    if (ownT g s g.prods.length).length = 0 then none else
    wrapG ((ownT g s g.prods.length).getD (pickT (cs.getD k 0) (ownT g s g.prods.length).length) 0 : Nat)
      (growKids (grownT g cs f) (g.prods.getD ((ownT g s g.prods.length).getD (pickT (cs.getD k 0) (ownT g s g.prods.length).length) 0) prd0).right (k + 1) [])
theorem wrapG_some {n : Int} {R : Option (List Tr × Nat)} {t : Tr} {k : Nat} (h : wrapG n R = some (t, k)) : ∃ l, R = some (l, k) ∧ t = .mk n l := by
  cases R with
  | none => cases h
  | some q =>
    obtain ⟨l, k2⟩ := q
    rw [wrapG] at h
    injection h with h
    injection h with h1 h2
    exact ⟨l, by rw [h2], h1.symm⟩
/-- Short right sides, of symbols that there are. -/
structure Sides (g : PG) : Prop where
  short : ∀ p ∈ g.prods, p.right.length ≤ 7
  low : ∀ p ∈ g.prods, ∀ y ∈ p.right, -(g.terms.length : Int) ≤ y
/-- What holds of a grown tree. -/
def GrownOk (g : PG) (s : Int) (k : Nat) (t : Tr) (k' : Nat) : Prop := k ≤ k' ∧ k' ≤ 61 ∧ fitsT g t = true ∧ rootT g t.prod = (s, true) ∧ nodesT t + 7 * k ≤ 7 * k' + 1
theorem kids_ok {g : PG} {T : Int → Nat → Option (Tr × Nat)} (hT : ∀ y k t k', -(g.terms.length : Int) ≤ y → k ≤ 61 → T y k = some (t, k') → GrownOk g y k t k') : ∀ (ys : List Int) (k : Nat) (acc l : List Tr) (k' : Nat), (∀ y ∈ ys, -(g.terms.length : Int) ≤ y) → k ≤ 61 → growKids T ys k acc = some (l, k') →
    ∃ l2, l = acc ++ l2 ∧ fitsL g l2 ys = true ∧ k ≤ k' ∧ k' ≤ 61 ∧ nodesL l2 + 7 * k ≤ 7 * k' + ys.length
  | [], k, acc, l, k', hy, hk, h => by
    rw [growKids] at h
    injection h with h
    injection h with h1 h2
    subst h1 h2
    exact ⟨[], by simp, by rw [fitsL], Nat.le_refl _, hk, by simp [nodesL]⟩
  | y :: ys, k, acc, l, k', hy, hk, h => by
    rw [growKids] at h
    cases ht : T y k with
    | none => rw [ht] at h; cases h
    | some q =>
      obtain ⟨t, k2⟩ := q
      rw [ht] at h
      obtain ⟨h1, h2, h3, h4, h5⟩ := hT y k t k2 (hy y (by simp)) hk ht
      obtain ⟨l2, e, h6, h7, h8, h9⟩ := kids_ok hT ys k2 (acc ++ [t]) l k' (fun y hy2 => hy y (by simp [hy2])) h2 h
      refine ⟨t :: l2, by rw [e]; simp, ?_, by omega, h8, ?_⟩
      · rw [fitsL, h4, h6, h3]; simp
      · rw [nodesL, List.length_cons]; omega
theorem grown_ok {g : PG} (hs : Sides g) (cs : List Int) : ∀ (f : Nat) (s : Int) (k : Nat) (t : Tr) (k' : Nat), -(g.terms.length : Int) ≤ s → k ≤ 61 → grownT g cs f s k = some (t, k') → GrownOk g s k t k'
  | 0, s, k, t, k', hlo, hk, h => by rw [grownT] at h; cases h
  | f + 1, s, k, t, k', hlo, hk, h => by
    rw [grownT] at h
    by_cases hn : s < 0
    · rw [if_pos hn] at h
      injection h with h
      injection h with h1 h2
      subst h1 h2
      have e : rootT g s = (s, true) := by unfold rootT; rw [if_pos hn, decide_eq_true hlo]
      have e2 : sideT g s = [] := by unfold sideT; rw [if_pos hn]
      exact ⟨Nat.le_refl _, hk, by rw [fitsT, e, e2, fitsL]; rfl, e, by simp [nodesT, nodesL]; omega⟩
    · rw [if_neg hn] at h
      split at h
      · cases h
      rename_i hc
      split at h
      · cases h
      rename_i ho
      obtain ⟨l, h1, rfl⟩ := wrapG_some h
      have hpl := pick_lt (cs.getD k 0) (ownT g s g.prods.length).length (by omega)
      obtain ⟨i, hi⟩ : ∃ i, i = (ownT g s g.prods.length).getD (pickT (cs.getD k 0) (ownT g s g.prods.length).length) 0 := ⟨_, rfl⟩
      have hm : i ∈ ownT g s g.prods.length := by
        rw [hi, List.getD_eq_getElem?_getD, List.getElem?_eq_getElem hpl]
        exact List.getElem_mem hpl
      rw [← hi] at h1 ⊢
      obtain ⟨h2, h3⟩ := own_mem _ _ hm
      have e0 : g.prods.getD i prd0 = g.prods[i] := by rw [List.getD_eq_getElem?_getD, List.getElem?_eq_getElem h2]; rfl
      rw [e0] at h1 h3
      have e : rootT g (i : Int) = (s, true) := by
        unfold rootT
        rw [if_neg (by omega), dif_pos (by simpa using h2)]
        simp [h3]
      have e2 : sideT g (i : Int) = g.prods[i].right := by
        unfold sideT
        rw [if_neg (by omega), dif_pos (by simpa using h2)]
        simp
      obtain ⟨l2, e4, h6, h7, h8, h9⟩ := kids_ok (fun y k t k' h1 h2 h3 => grown_ok hs cs f y k t k' h1 h2 h3) _ _ _ _ _ (hs.low _ (List.getElem_mem h2)) (by omega) h1
      rw [List.nil_append] at e4
      subst e4
      have := hs.short _ (List.getElem_mem h2)
      exact ⟨by omega, h8, by rw [fitsT, e, e2, h6]; rfl, e, by rw [nodesT]; omega⟩
mutual
theorem fits_low {g : PG} : ∀ t : Tr, fitsT g t = true → ∀ n ∈ preT t, -(g.terms.length : Int) ≤ n
  | .mk n l, h => by
    obtain ⟨h1, h2⟩ := fits_at h
    intro k hk
    rw [preT] at hk
    rcases List.mem_cons.1 hk with rfl | hk
    · unfold rootT at h1
      split at h1
      · simpa using h1
      · omega
    · exact fits_lows l _ h2 k hk
theorem fits_lows {g : PG} : ∀ (l : List Tr) (ss : List Int), fitsL g l ss = true → ∀ n ∈ preL l, -(g.terms.length : Int) ≤ n
  | [], _, _ => by simp [preL]
  | a :: r, [], h => by rw [fitsL] at h; cases h
  | a :: r, s :: ss, h => by
    obtain ⟨_, h2, h3⟩ := fits_split h
    intro k hk
    rw [preL] at hk
    rcases List.mem_append.1 hk with hk | hk
    · exact fits_low a h2 k hk
    · exact fits_lows r ss h3 k hk
end
theorem fits_in {g : PG} {t : Tr} (h : fitsT g t = true) (hg : g.terms.length ≤ 1000000) : InT t := fun n hn h0 => by
  have := fits_low t h n hn
  exact IntWalk.i64_in _ (by omega)
theorem own_snoc (g : PG) (s : Int) (i : Nat) (h : i < g.prods.length) : ownT g s (i + 1) = if g.prods[i].left = s then ownT g s i ++ [i] else ownT g s i := by
  have e0 : g.prods.getD i prd0 = g.prods[i] := by rw [List.getD_eq_getElem?_getD, List.getElem?_eq_getElem h]; rfl
  rw [ownT, e0]
end Go.Proofs.Ytjlppffkacimoaa.Tr
