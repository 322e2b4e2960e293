/-
  What the calls of FactsWays tell; a rising row and the places in it.
-/
import Derived.Test.YtlkijnglpllcdaaFxRfFs
namespace Go.Proofs.Ytlkijnglpllcdaa.Fx
open Go.RowKit
set_option maxRecDepth 100000
set_option linter.unusedVariables false

/-- Told by the program's First, row by row. -/
def tFst2 (g : PG) (v : Value) (w : World) : Prop := ∃ L, Least g L ∧ ∃ (b : Nat) (F : Nat → Value) (R : Nat → List Int), v = .slice (some ⟨b, 0, none⟩) g.names.length g.names.length ∧ w.rowIs b 22 g.names.length F ∧ ∀ a, a < g.names.length → IntsAt (fun _ => True) w (R a) (F a) ∧ firstT g L a (R a)
theorem tFst2_st (g : PG) : Loose.St (tFst2 g) := fun v w w' ⟨L, h1, c, F, R, h2, h3, h4⟩ b => ⟨L, h1, c, F, R, h2, h3.of_block (b.block _ h3.lt), fun a ha => ⟨(h4 a ha).1.under b, (h4 a ha).2⟩⟩
/-- Told by the document's. -/
def tFsR (g : PG) (v : Value) (w : World) : Prop := ∃ (go c : Nat) (R : Nat → Nat) (O : Bits), v = .slice (some ⟨go, 0, none⟩) g.names.length c ∧ (∀ i, i < g.names.length → w.cell? ⟨go, i, none⟩ = some (.slice (some ⟨R i, 0, none⟩) g.terms.length g.terms.length) ∧ w.rowIs (R i) 4 g.terms.length (fun t => .bool (O i t))) ∧ go < w.heap.size ∧
  (∀ L, Least g L → ∀ i t, i < g.names.length → t < g.terms.length → (O i t = true ↔ Come (goS (aheadL L) g.prods) (goS (aheadL L) g.prods i) (-1 - (t : Int))))
theorem tFsR_st (g : PG) : Loose.St (tFsR g) := fun v w w' ⟨go, c, R, O, h1, h2, h3, h4⟩ b => ⟨go, c, R, O, h1, fun i hi => ⟨(b.cell (p := ⟨go, i, none⟩) h3).trans (h2 i hi).1, (h2 i hi).2.of_block (b.block _ (h2 i hi).2.lt)⟩, Nat.lt_of_lt_of_le h3 b.size, h4⟩
def tLps (g : PG) (v : Value) (w : World) : Prop := ∃ L, Least g L ∧ ∃ (b : Nat) (D : Nat → Bool), v = .slice (some ⟨b, 0, none⟩) g.names.length g.names.length ∧ w.rowIs b 4 g.names.length (fun i => .bool (D i)) ∧ ∀ a, a < g.names.length → (D a = true ↔ loopsT g L a)
theorem tLps_st (g : PG) : Loose.St (tLps g) := fun v w w' ⟨L, h1, c, D, h2, h3, h4⟩ b => ⟨L, h1, c, D, h2, h3.of_block (b.block _ h3.lt), h4⟩
def tLpR (g : PG) (v : Value) (w : World) : Prop := ∃ (b : Nat) (D : Nat → Bool), v = .slice (some ⟨b, 0, none⟩) g.names.length g.names.length ∧ w.rowIs b 4 g.names.length (fun i => .bool (D i)) ∧ ∀ L, Least g L → ∀ a, a < g.names.length → (D a = true ↔ loopsT g L a)
theorem tLpR_st (g : PG) : Loose.St (tLpR g) := fun v w w' ⟨c, D, h2, h3, h4⟩ b => ⟨c, D, h2, h3.of_block (b.block _ h3.lt), h4⟩
section
variable (g : PG) (P : Nat → Prop) (W : World) (v : Value) (h : PgAt P W g v)
include h
theorem fst2_told (hs : g.Fits) (hsd : soundB g = true) : Calls Try.prog 16 #[v] W fun e w' => ∃ u, e = .returned u ∧ Below W.heap.size W w' ∧ tFst2 g u w' := by
  refine (first_any g hs hsd P W v h).mono ?_
  rintro e w' ⟨L, hl, q, F, R, rfl, _, hr, hT, b⟩
  exact ⟨_, rfl, b, L, hl, q, F, R, rfl, hr, fun a ha => ⟨(hT a ha).1.keep (Nat.le_refl _) (fun r _ _ => ⟨trivial, fun _ => rfl⟩), (hT a ha).2⟩⟩
theorem fsR_told (hS : Snd g) : Calls Try.prog 17 #[v] W fun e w' => ∃ u, e = .returned u ∧ Below W.heap.size W w' ∧ tFsR g u w' := by
  refine (fsref_any g hS P W v h).mono ?_
  rintro e w' ⟨go, c, R, O, rfl, h1, h2, h3, b⟩
  exact ⟨_, rfl, b, go, c, R, O, rfl, h1, h2, h3⟩
theorem rchR_told (hS : Snd g) : Calls Try.prog 19 #[v] W fun e w' => ∃ u, e = .returned u ∧ Below W.heap.size W w' ∧ tRch g u w' := by
  refine (rchref_any g hS P W v h).mono ?_
  rintro e w' ⟨b, O, rfl, _, hr, hO, hb⟩
  exact ⟨_, rfl, hb, b, O, rfl, hr, fun a _ => hO a⟩
theorem lps_told (hs : g.Fits) (hsd : soundB g = true) : Calls Try.prog 20 #[v] W fun e w' => ∃ u, e = .returned u ∧ Below W.heap.size W w' ∧ tLps g u w' := by
  refine (loops_any g hs hsd P W v h).mono ?_
  rintro e w' ⟨L, hl, q, D, rfl, _, hr, hT, b⟩
  exact ⟨_, rfl, b, L, hl, q, D, rfl, hr, hT⟩
theorem lpR_told (hS : Snd g) : Calls Try.prog 21 #[v] W fun e w' => ∃ u, e = .returned u ∧ Below W.heap.size W w' ∧ tLpR g u w' := by
  refine (lpref_any g hS P W v h).mono ?_
  rintro e w' ⟨bo, D, N, rfl, hr, hN, hD, hb⟩
  exact ⟨_, rfl, hb, bo, D, rfl, hr, fun L hL a ha => by unfold loopsT; rw [hN L hL]; exact hD a ha⟩
end
theorem rows_same {w : World} {b b' n : Nat} {D D' : Nat → Bool} (h : w.rowIs b 4 n (fun i => .bool (D i))) (k : w.rowIs b' 4 n (fun i => .bool (D' i))) (e : ∀ a, a < n → (D a = true ↔ D' a = true)) : ∃ l : List Bool, l.length = n ∧ BoolsAt (fun _ => True) w l (.slice (some ⟨b, 0, none⟩) n n) ∧ BoolsAt (fun _ => True) w l (.slice (some ⟨b', 0, none⟩) n n) := by
  refine ⟨_, by simp, BoolsAt.of_row h, ?_⟩
  have e2 : (List.range n).map D = (List.range n).map D' := List.map_congr_left fun a ha => by
    have := e a (List.mem_range.1 ha)
    cases h1 : D a <;> cases h2 : D' a <;> simp [h1, h2] at this ⊢
  rw [e2]
  exact BoolsAt.of_row k
theorem rch_same {g : PG} {v u : Value} {w : World} (h : tRch g v w) (k : tRch g u w) : ∃ l : List Bool, l.length = g.names.length ∧ BoolsAt (fun _ => True) w l v ∧ BoolsAt (fun _ => True) w l u := by
  obtain ⟨b, D, rfl, h1, h2⟩ := h
  obtain ⟨b', D', rfl, k1, k2⟩ := k
  exact rows_same h1 k1 fun a ha => (h2 a ha).trans (k2 a ha).symm
theorem lps_same {g : PG} {v u : Value} {w : World} (h : tLps g v w) (k : tLpR g u w) : ∃ l : List Bool, l.length = g.names.length ∧ BoolsAt (fun _ => True) w l v ∧ BoolsAt (fun _ => True) w l u := by
  obtain ⟨L, hL, b, D, rfl, h1, h2⟩ := h
  obtain ⟨b', D', rfl, k1, k2⟩ := k
  exact rows_same h1 k1 fun a ha => (h2 a ha).trans (k2 L hL a ha).symm

/-- So many of a rising row are less than t. -/
def AtPos (l : List Int) (t i : Nat) : Prop := i ≤ l.length ∧ (∀ (j : Nat) (h : j < l.length), j < i → l[j] < (t : Int)) ∧ ∀ (j : Nat) (h : j < l.length), i ≤ j → (t : Int) ≤ l[j]
theorem pos_start {l : List Int} (h : ∀ x ∈ l, 0 ≤ x) : AtPos l 0 0 := ⟨Nat.zero_le _, fun j _ hj => absurd hj (by omega), fun j hj _ => h _ (List.getElem_mem hj)⟩
theorem pos_hit {l : List Int} (hp : l.Pairwise (· < ·)) {t i : Nat} (h : AtPos l t i) (hm : (t : Int) ∈ l) : ∃ hi : i < l.length, l[i] = (t : Int) ∧ AtPos l (t + 1) (i + 1) := by
  obtain ⟨h1, h2, h3⟩ := h
  obtain ⟨j, hj, he⟩ := List.getElem_of_mem hm
  have hij : i ≤ j := by
    rcases Nat.lt_or_ge j i with h4 | h4
    · have := h2 j hj h4; omega
    · exact h4
  have hi : i < l.length := by omega
  have hlt := fun (a b : Nat) (ha : a < l.length) (hb : b < l.length) (hab : a < b) => (List.pairwise_iff_getElem.1 hp) a b ha hb hab
  have e : l[i] = (t : Int) := by
    have h5 := h3 i hi (Nat.le_refl _)
    rcases Nat.lt_or_ge i j with h4 | h4
    · have := hlt i j hi hj h4; omega
    · have : i = j := by omega
      subst this; exact he
  refine ⟨hi, e, hi, fun a ha hai => ?_, fun a ha hai => ?_⟩
  · by_cases h6 : a = i
    · subst h6; omega
    · have := h2 a ha (by omega); omega
  · have := hlt i a hi ha (by omega); omega
theorem pos_miss {l : List Int} {t i : Nat} (h : AtPos l t i) (hm : (t : Int) ∉ l) : AtPos l (t + 1) i := by
  obtain ⟨h1, h2, h3⟩ := h
  refine ⟨h1, fun j hj hji => by have := h2 j hj hji; omega, fun j hj hji => ?_⟩
  have h4 := h3 j hj hji
  have h5 : l[j] ≠ (t : Int) := fun e => hm (by rw [← e]; exact List.getElem_mem hj)
  omega
theorem pos_end {l : List Int} {m i : Nat} (h : AtPos l m i) (hm : ∀ x ∈ l, x < (m : Int)) : i = l.length := by
  obtain ⟨h1, h2, h3⟩ := h
  rcases Nat.lt_or_ge i l.length with h4 | h4
  · have h5 := h3 i h4 (Nat.le_refl _)
    have h6 := hm _ (List.getElem_mem h4)
    omega
  · omega
theorem rise_ge {l : List Int} (hp : l.Pairwise (· < ·)) (h0 : ∀ x ∈ l, 0 ≤ x) : ∀ (j : Nat) (h : j < l.length), (j : Int) ≤ l[j]
  | 0, h => h0 _ (List.getElem_mem h)
  | j + 1, h => by
    have h1 := rise_ge hp h0 j (by omega)
    have h2 := (List.pairwise_iff_getElem.1 hp) j (j + 1) (by omega) h (by omega)
    omega
theorem pos_le {l : List Int} (hp : l.Pairwise (· < ·)) (h0 : ∀ x ∈ l, 0 ≤ x) {t i : Nat} (h : AtPos l t i) : i ≤ t := by
  cases i with
  | zero => omega
  | succ i =>
    have h1 := h.2.1 i (by have := h.1; omega) (by omega)
    have h2 := rise_ge hp h0 i (by have := h.1; omega)
    omega
theorem come_lo {g : PG} (hS : Snd g) {L : List Int} {i : Nat} {x : Int} (h : Come (goS (aheadL L) g.prods) (goS (aheadL L) g.prods i) x) : -(g.terms.length : Int) ≤ x := by
  have one : ∀ (a : Nat) (y : Int), y ∈ goS (aheadL L) g.prods a → -(g.terms.length : Int) ≤ y := fun a y hy => by
    obtain ⟨p, hp, hy⟩ := goS_mem hy
    exact (hS.known p hp y (aheadL_mem hy)).1
  induction h with
  | base x hx => exact one _ x hx
  | step a y _ hy _ => exact one a y hy
/-- The program's row and the document's. -/
theorem row_facts {g : PG} (hS : Snd g) {L : List Int} {a : Nat} {l : List Int} (h : firstT g L a l) : l.Pairwise (· < ·) ∧ (∀ x ∈ l, 0 ≤ x) ∧ (∀ x ∈ l, x < (g.terms.length : Int)) ∧ ∀ t : Nat, (t : Int) ∈ l ↔ Come (goS (aheadL L) g.prods) (goS (aheadL L) g.prods a) (-1 - (t : Int)) := by
  obtain ⟨M, ⟨h1, h2⟩, h3⟩ := h
  refine ⟨h1, fun x hx => ((h2 x).1 hx).1, fun x hx => ?_, fun t => ?_⟩
  · have := come_lo hS ((h3 _).1 ((h2 x).1 hx).2); omega
  · rw [h2, h3]
    exact ⟨fun h => h.2, fun h => ⟨by omega, h⟩⟩
end Go.Proofs.Ytlkijnglpllcdaa.Fx
