/-
  The document's Step, by definition: a symbol that stands alone in a production's right side.
-/
import Derived.Test.YtlkijnglpllcdaaFxRfRch
import Derived.Test.YtlkijnglpllcdaaFxLoops
namespace Go.Proofs.Ytlkijnglpllcdaa.Fx
open Go.RowKit
set_option maxRecDepth 100000

/-- It stands at place k, and the others may be left out. -/
def AloneAt (N : List Bool) (r : List Int) (b : Int) (k : Nat) : Prop := ∃ h : k < r.length, r[k] = b ∧ ∀ (j : Nat) (hj : j < r.length), j ≠ k → fullB N r[j] = false
theorem alone_cons (N : List Bool) (s : Int) (r : List Int) (b : Int) : (∃ k, AloneAt N (s :: r) b k) ↔ (s = b ∧ ∀ x ∈ r, fullB N x = false) ∨ (fullB N s = false ∧ ∃ k, AloneAt N r b k) := by
  constructor
  · rintro ⟨k, h, h1, h2⟩
    cases k with
    | zero =>
      left
      refine ⟨h1, fun x hx => ?_⟩
      obtain ⟨j, hj, rfl⟩ := List.getElem_of_mem hx
      have := h2 (j + 1) (by simp; omega) (by omega)
      simpa using this
    | succ k =>
      right
      refine ⟨?_, k, by simpa using h, by simpa using h1, fun j hj hjk => ?_⟩
      · have := h2 0 (by simp) (by omega)
        simpa using this
      · have := h2 (j + 1) (by simp; omega) (by omega)
        simpa using this
  · rintro (⟨rfl, h⟩ | ⟨h0, k, h, h1, h2⟩)
    · refine ⟨0, by simp, rfl, fun j hj hjk => ?_⟩
      cases j with
      | zero => exact absurd rfl hjk
      | succ j => exact h _ (by simp)
    · refine ⟨k + 1, by simp; omega, by simpa using h1, fun j hj hjk => ?_⟩
      cases j with
      | zero => exact h0
      | succ j =>
        have := h2 j (by simpa using hj) (by omega)
        simpa using this
theorem lone_iff (N : List Bool) (b : Int) : ∀ r : List Int, b ∈ loneL N r ↔ ∃ k, AloneAt N r b k
  | [] => by
    constructor
    · intro h; simp [loneL] at h
    · rintro ⟨k, h, _⟩; simp at h
  | s :: r => by
    rw [alone_cons, ← lone_iff N b r]
    unfold loneL
    have hnil : (∀ x ∈ r, fullB N x = false) ↔ r.filter (fullB N) = [] := by
      rw [List.filter_eq_nil_iff]
      exact ⟨fun h x hx => by rw [h x hx]; decide, fun h x hx => by simpa using h x hx⟩
    rw [hnil]
    cases hf : fullB N s
    · rw [List.filter_cons_of_neg (by rw [hf]; decide)]
      rcases hr : r.filter (fullB N) with _ | ⟨x, _ | ⟨y, l⟩⟩
      · simp [eq_comm]
      · simp
      · simp
    · rw [List.filter_cons_of_pos hf]
      rcases hr : r.filter (fullB N) with _ | ⟨x, l⟩
      · simp [eq_comm]
      · simp
/-- The test of the others, up to place j. -/
def okJ (N : List Bool) (r : List Int) (k j : Nat) : Bool := (List.range j).all fun i => decide (i = k) || !fullB N (r.getD i 0)
theorem okJ_succ (N : List Bool) (r : List Int) (k j : Nat) : okJ N r k (j + 1) = (okJ N r k j && (decide (j = k) || !fullB N (r.getD j 0))) := by
  unfold okJ; rw [List.range_succ, List.all_append]; simp
theorem okJ_all {N : List Bool} {r : List Int} {b : Int} {k : Nat} (hk : k < r.length) : ((r.getD k 0 == b) && okJ N r k r.length) = true ↔ AloneAt N r b k := by
  have hg : ∀ i, (h : i < r.length) → r.getD i 0 = r[i] := fun i h => by rw [List.getD_eq_getElem?_getD, List.getElem?_eq_getElem h]; rfl
  rw [Bool.and_eq_true, beq_iff_eq, hg k hk]
  unfold okJ
  rw [List.all_eq_true]
  constructor
  · rintro ⟨h1, h2⟩
    refine ⟨hk, h1, fun j hj hjk => ?_⟩
    have := h2 j (List.mem_range.2 hj)
    rw [decide_eq_false hjk, hg j hj] at this
    simpa using this
  · rintro ⟨_, h1, h2⟩
    refine ⟨h1, fun j hj => ?_⟩
    have hj := List.mem_range.1 hj
    by_cases e : j = k
    · rw [decide_eq_true e]; rfl
    · rw [hg j hj, h2 j hj e]; simp
/-- No production among these has it alone. -/
def NoneUp (N : List Bool) (ps : List Prd) (a b : Int) (i : Nat) : Prop := ∀ (j : Nat) (h : j < ps.length), j < i → ps[j].left = a → ¬ ∃ k, AloneAt N ps[j].right b k
theorem step_is (N : List Bool) (ps : List Prd) (a : Nat) (b : Int) : b ∈ goS (loneL N) ps a ↔ ∃ p ∈ ps, p.left = (a : Int) ∧ ∃ k, AloneAt N p.right b k := by
  constructor
  · intro h
    obtain ⟨p, hp, hl, hy⟩ := goS_back h
    exact ⟨p, hp, hl, (lone_iff N b _).1 hy⟩
  · rintro ⟨p, hp, hl, hy⟩
    exact goS_in hp hl ((lone_iff N b _).2 hy)
theorem step_no {N : List Bool} {ps : List Prd} {a : Nat} {b : Int} (h : NoneUp N ps a b ps.length) : b ∉ goS (loneL N) ps a := by
  intro hm
  obtain ⟨p, hp, hl, hk⟩ := (step_is N ps a b).1 hm
  obtain ⟨i, hi, rfl⟩ := List.getElem_of_mem hp
  exact h i hi hi hl hk

/-! ### The symbols that are come to from one, as a set -/
def LpFx (S : Nat → List Int) (n : Nat) (O : Nat → Bool) (b : Nat) : Prop := O b = true → ∀ c : Nat, c < n → (c : Int) ∈ S b → O c = true
def PassL (S : Nat → List Int) (n : Nat) (O0 O : Nat → Bool) (k : Nat) (t : Bool) : Prop := (t = false → O = O0 ∧ ∀ j, j < k → LpFx S n O0 j) ∧ (t = true → cntN O n < cntN O0 n)
theorem PassL.same {S : Nat → List Int} {n : Nat} {O0 O : Nat → Bool} {k : Nat} {b : Bool} (hp : PassL S n O0 O k b) (hf : b = false → LpFx S n O k) : PassL S n O0 O (k + 1) b := by
  refine ⟨fun hb => ?_, hp.2⟩
  obtain ⟨h1, h2⟩ := hp.1 hb
  refine ⟨h1, fun j hj => ?_⟩
  by_cases e : j = k
  · subst e; rw [← h1]; exact hf hb
  · exact h2 j (by omega)
theorem PassL.less {S : Nat → List Int} {n : Nat} {O0 O O' : Nat → Bool} {k k' : Nat} {b : Bool} (hp : PassL S n O0 O k b) (hl : cntN O' n < cntN O n) : PassL S n O0 O' k' true := by
  refine ⟨(fun h => by cases h), fun _ => ?_⟩
  cases b
  · rw [(hp.1 rfl).1] at hl; exact hl
  · have := hp.2 rfl; omega
def LpOk (S : Nat → List Int) (a : Nat) (O : Nat → Bool) : Prop := ∀ i : Nat, O i = true → Come S (S a) (i : Int)
theorem lp_is {S : Nat → List Int} {a n : Nat} {O : Nat → Bool} (hS : ∀ i, i < n → ∀ y ∈ S i, y < (n : Int)) (h : LpOk S a O) (ha : a < n) (h0 : ∀ c : Nat, c < n → (c : Int) ∈ S a → O c = true) (hf : ∀ b, b < n → LpFx S n O b) (i : Nat) : O i = true ↔ Come S (S a) (i : Int) := by
  have key : ∀ x, Come S (S a) x → 0 ≤ x → x < (n : Int) ∧ O x.toNat = true := by
    intro x hx
    induction hx with
    | base x hx =>
      intro h1
      have h2 := hS a ha x hx
      exact ⟨h2, h0 _ (by omega) (by rw [show ((x.toNat : Nat) : Int) = x by omega]; exact hx)⟩
    | step b y _ hy ih =>
      intro h1
      obtain ⟨h2, h3⟩ := ih (by omega)
      have hb : b < n := by omega
      have h4 := hS b hb y hy
      have h3 : O b = true := h3
      exact ⟨h4, hf b hb h3 _ (by omega) (by rw [show ((y.toNat : Nat) : Int) = y by omega]; exact hy)⟩
  exact ⟨h i, fun hc => (key _ hc (by omega)).2⟩
theorem lp_step {S : Nat → List Int} {a : Nat} {O : Nat → Bool} (h : LpOk S a O) {b c : Nat} (hb : O b = true) (hc : (c : Int) ∈ S b) : LpOk S a (updN O c) := by
  intro i hi
  by_cases e : i = c
  · subst e; exact .step b _ (h b hb) hc
  · refine h i ?_
    unfold updN at hi
    rwa [if_neg e] at hi
end Go.Proofs.Ytlkijnglpllcdaa.Fx
