/-
  What the calls tell, as facts that hold on.
-/
import Derived.Test.YtlkijnglpllcdaaFxBools
import Derived.Test.YtlkijnglpllcdaaLoose
import Derived.Test.YtlkijnglpllcdaaLooseD
namespace Go.Proofs.Ytlkijnglpllcdaa.Fx
open Go.RowKit
set_option maxRecDepth 100000
set_option linter.unusedVariables false

/-- Told by each call. -/
def tNull (g : PG) (v : Value) (w : World) : Prop := ∃ L, Least g L ∧ BoolsAt (fun _ => True) w (L.map fun x : Int => x == 0) v
def tGen (g : PG) (v : Value) (w : World) : Prop := ∃ L, Least g L ∧ BoolsAt (fun _ => True) w (L.map fun x : Int => x != -1) v
def tLen (g : PG) (v : Value) (w : World) : Prop := ∃ L, Least g L ∧ IntsAt (fun _ => True) w L v
def tFst (g : PG) (v : Value) (w : World) : Prop := ∃ L, Least g L ∧ ∃ (b : Nat) (F : Nat → Value) (R : Nat → List Int), v = .slice (some ⟨b, 0, none⟩) g.names.length g.names.length ∧ w.rowIs b 22 g.names.length F ∧ ∀ a, a < g.names.length → (∃ A c, F a = .slice A (R a).length c) ∧ firstT g L a (R a)
def tRch (g : PG) (v : Value) (w : World) : Prop := ∃ (b : Nat) (D : Nat → Bool), v = .slice (some ⟨b, 0, none⟩) g.names.length g.names.length ∧ w.rowIs b 4 g.names.length (fun i => .bool (D i)) ∧ ∀ a, a < g.names.length → (D a = true ↔ Come (goS id g.prods) [g.start] (a : Int))
theorem tNull_st (g : PG) : Loose.St (tNull g) := fun v w w' ⟨L, h1, h2⟩ b => ⟨L, h1, h2.under b⟩
theorem tGen_st (g : PG) : Loose.St (tGen g) := fun v w w' ⟨L, h1, h2⟩ b => ⟨L, h1, h2.under b⟩
theorem tLen_st (g : PG) : Loose.St (tLen g) := fun v w w' ⟨L, h1, h2⟩ b => ⟨L, h1, h2.under b⟩
theorem tFst_st (g : PG) : Loose.St (tFst g) := fun v w w' ⟨L, h1, c, F, R, h2, h3, h4⟩ b => ⟨L, h1, c, F, R, h2, h3.of_block (b.block _ h3.lt), h4⟩
theorem tRch_st (g : PG) : Loose.St (tRch g) := fun v w w' ⟨c, D, h2, h3, h4⟩ b => ⟨c, D, h2, h3.of_block (b.block _ h3.lt), h4⟩
section
variable (g : PG) (hs : g.Fits) (hsd : soundB g = true) (P : Nat → Prop) (W : World) (v : Value) (h : PgAt P W g v)
include hs hsd h
theorem null_told : Calls Try.prog 14 #[v] W fun e w' => ∃ u, e = .returned u ∧ Below W.heap.size W w' ∧ tNull g u w' := by
  refine (nullable_any g hs hsd P W v h).mono ?_
  rintro e w' ⟨u, L, rfl, hl, ho, b⟩
  exact ⟨u, rfl, b, L, hl, (BoolsAt.of_own (l := L.map fun x : Int => x == 0) (by rw [List.length_map]; exact ho)).keep (Nat.le_refl _) (fun r _ _ => ⟨trivial, fun _ => rfl⟩)⟩
theorem gen_told : Calls Try.prog 12 #[v] W fun e w' => ∃ u, e = .returned u ∧ Below W.heap.size W w' ∧ tGen g u w' := by
  refine (generating_any g hs hsd P W v h).mono ?_
  rintro e w' ⟨u, L, rfl, hl, ho, b⟩
  exact ⟨u, rfl, b, L, hl, (BoolsAt.of_own (l := L.map fun x : Int => x != -1) (by rw [List.length_map]; exact ho)).keep (Nat.le_refl _) (fun r _ _ => ⟨trivial, fun _ => rfl⟩)⟩
theorem len_told : Calls Try.prog 10 #[v] W fun e w' => ∃ u, e = .returned u ∧ Below W.heap.size W w' ∧ tLen g u w' := by
  refine (shortest_any g hs hsd P W v h).mono ?_
  rintro e w' ⟨q, L, rfl, _, hr, hl, b⟩
  exact ⟨_, rfl, b, L, hl, hr.ints.keep (Nat.le_refl _) (fun r _ _ => ⟨trivial, fun _ => rfl⟩)⟩
theorem fst_told : Calls Try.prog 16 #[v] W fun e w' => ∃ u, e = .returned u ∧ Below W.heap.size W w' ∧ tFst g u w' := by
  refine (first_any g hs hsd P W v h).mono ?_
  rintro e w' ⟨L, hl, q, F, R, rfl, _, hr, hT, b⟩
  exact ⟨_, rfl, b, L, hl, q, F, R, rfl, hr, fun a ha => ⟨(hT a ha).1.form, (hT a ha).2⟩⟩
theorem rch_told : Calls Try.prog 18 #[v] W fun e w' => ∃ u, e = .returned u ∧ Below W.heap.size W w' ∧ tRch g u w' := by
  refine (reach_any g hs hsd P W v h).mono ?_
  rintro e w' ⟨q, L, rfl, _, hr, hT, b⟩
  exact ⟨_, rfl, b, q, L, rfl, hr, hT⟩
end
/-- Bools of a row by a map of numbers. -/
theorem bools_cells {L : List Int} {f : Int → Bool} {w : World} {v : Value} (h : BoolsAt (fun _ => True) w (L.map f) v) (h1 : 0 < L.length) : ∃ b c, v = .slice (some ⟨b, 0, none⟩) L.length c ∧ L.length ≤ c ∧ b < w.heap.size ∧ ∀ i, i < L.length → w.cell? ⟨b, i, none⟩ = some (.bool (f (L.getD i (-1)))) := by
  obtain ⟨A, c, b, rfl, hc, h3, h4⟩ := h
  rw [List.length_map] at hc h3 ⊢
  obtain ⟨rfl, hb, _⟩ := h3 h1
  refine ⟨b, c, rfl, hc, hb, fun i hi => ?_⟩
  rw [h4 i (by rw [List.length_map]; exact hi), List.getElem_map, List.getD_eq_getElem?_getD, List.getElem?_eq_getElem hi]
  rfl
theorem ints_cells {L : List Int} {w : World} {v : Value} (h : IntsAt (fun _ => True) w L v) (h1 : 0 < L.length) : ∃ b c, v = .slice (some ⟨b, 0, none⟩) L.length c ∧ L.length ≤ c ∧ b < w.heap.size ∧ ∀ i, i < L.length → w.cell? ⟨b, i, none⟩ = some (.int .i64 (L.getD i (-1))) := by
  obtain ⟨A, c, b, rfl, hc, h3, h4⟩ := h
  obtain ⟨rfl, hb, _⟩ := h3 h1
  refine ⟨b, c, rfl, hc, hb, fun i hi => ?_⟩
  rw [h4 i hi, List.getD_eq_getElem?_getD, List.getElem?_eq_getElem hi]
  rfl

/-- Told by the document's Nullable. -/
def tNulR (g : PG) (v : Value) (w : World) : Prop := ∃ (b : Nat) (O : Nat → Bool), v = .slice (some ⟨b, 0, none⟩) g.names.length g.names.length ∧ w.rowIs b 4 g.names.length (fun i => .bool (O i)) ∧ ∀ L, Least g L → ∀ i, O i = (L.getD i (-1) == 0)
theorem tNulR_st (g : PG) : Loose.St (tNulR g) := fun v w w' ⟨c, O, h2, h3, h4⟩ b => ⟨c, O, h2, h3.of_block (b.block _ h3.lt), h4⟩
section
variable (g : PG) (hS : Snd g) (P : Nat → Prop) (W : World) (v : Value) (h : PgAt P W g v)
include hS h
theorem nulR_told : Calls Try.prog 15 #[v] W fun e w' => ∃ u, e = .returned u ∧ Below W.heap.size W w' ∧ tNulR g u w' := by
  refine (nulref_any g hS P W v h).mono ?_
  rintro e w' ⟨b, O, rfl, _, hr, hO, hb⟩
  exact ⟨_, rfl, hb, b, O, rfl, hr, hO⟩
theorem lenR_told : Calls Try.prog 11 #[v] W fun e w' => ∃ u, e = .returned u ∧ Below W.heap.size W w' ∧ tLen g u w' := by
  refine (shref_any g hS P W v h).mono ?_
  rintro e w' ⟨q, L, rfl, _, hr, hl, b⟩
  exact ⟨_, rfl, b, L, hl, hr.ints.keep (Nat.le_refl _) (fun r _ _ => ⟨trivial, fun _ => rfl⟩)⟩
end
theorem nul_same {g : PG} {v u : Value} {w : World} (h : tNull g v w) (k : tNulR g u w) : ∃ l : List Bool, l.length = g.names.length ∧ BoolsAt (fun _ => True) w l v ∧ BoolsAt (fun _ => True) w l u := by
  obtain ⟨L, hL, h⟩ := h
  obtain ⟨b, O, rfl, hr, hO⟩ := k
  have hl := (runs_ok hL.runs).1
  refine ⟨_, by simp [hl], h, ?_⟩
  have e : (L.map fun x : Int => x == 0) = (List.range g.names.length).map O := by
    refine List.ext_getElem (by simp [hl]) fun i h1 h2 => ?_
    have h3 : i < L.length := by simpa using h1
    simp only [List.getElem_map, List.getElem_range]
    rw [hO L hL i, List.getD_eq_getElem?_getD, List.getElem?_eq_getElem h3]
    rfl
  rw [e]
  exact BoolsAt.of_row hr
end Go.Proofs.Ytlkijnglpllcdaa.Fx
