/-
  Rows of rows of numbers that the call itself makes: a family, each row owned, no two in one block; append of numbers onto one of them.
-/
import Derived.Test.YtlkijnglpllcdaaFxGoes
import Derived.Deep.OwnRows
namespace Go.Proofs.Ytlkijnglpllcdaa.Fx
open Go.RowKit
set_option maxRecDepth 100000

theorem rinfo : (Try.prog.info? 22).map (fun i => (i.zero, i.size, i.bytes)) = some (some (.slice none 0 0), 1, 24) := by kernel_rfl

/-- An own row is seen in its block alone. -/
theorem own_of_block {W W' : World} {base n : Nat} {e : TypeId} {v : Value} {xs : List Value} (h : W.ownsRow base e 1 v n xs) (hb : ∀ g, v.ownBlock = some g → W'.heap[g]? = W.heap[g]?) : W'.ownsRow base e 1 v n xs := by
  refine ⟨h.1, ?_⟩
  rcases h.2 with h2 | ⟨g, cp, cur, h2, h3, h4, h5⟩
  · exact .inl h2
  · exact .inr ⟨g, cp, cur, h2, h3, by rw [hb g (by rw [h2]; rfl)]; exact h4, h5⟩
theorem own_base {W : World} {base n g : Nat} {e : TypeId} {v : Value} {xs : List Value} (h : W.ownsRow base e 1 v n xs) (hg : v.ownBlock = some g) : base ≤ g ∧ g < W.heap.size := by
  rcases h.2 with ⟨h2, _⟩ | ⟨g2, cp, cur, h2, h3, h4, h5⟩
  · rw [h2] at hg; cases hg
  · rw [h2] at hg
    injection hg with hg
    subst hg
    exact ⟨h3, Gn.heap_lt h4⟩

/-- append of a row of numbers, empty or not, onto an own row. -/
theorem run_append_ints (t : TypeId) (w : World) (base : Nat) (v : Value) (n : Nat) (xs : List Value) (hown : w.ownsRow base 3 1 v n xs) (P : Nat → Prop) (l : List Int) (u : Value) (h : IntsAt P w l u) (hm : n + l.length ≤ 8796093022208) (hb : base ≤ w.heap.size) :
    ∃ v' w', (Builtin.append_ #[22, 22] t #[v, u]).run Try.prog w = .ok v' w' ∧ w'.ownsRow base 3 1 v' (n + l.length) (xs ++ l.map (Value.int .i64)) ∧ w.grownBy w' v.ownBlock ∧ (v'.ownBlock = v.ownBlock ∨ v'.ownBlock = some w.heap.size) := by
  obtain ⟨i0, hi0, hz0, hz1, hz2⟩ := info_parts iinfo
  obtain ⟨A, cap, b, rfl, hcap, h3, h4⟩ := h
  cases A with
  | none =>
    have hl : l.length = 0 := by
      rcases Nat.eq_zero_or_pos l.length with h0 | h0
      · exact h0
      · obtain ⟨h5, _⟩ := h3 h0; cases h5
    have e := List.eq_nil_of_length_eq_zero hl
    subst e
    refine ⟨v, w, ?_, by simpa using hown, ⟨rfl, rfl, rfl, Nat.le_refl _, fun _ _ _ => rfl⟩, .inl rfl⟩
    rcases hown.2 with ⟨rfl, rfl⟩ | ⟨g, cap, cur, rfl, _, _, hnc, _⟩
    · simp [Builtin.append_, run_underlying Try.underlying22, sizeOf, typeInfo, hi0, Builtin.lenOf, Builtin.firstCells]
    · simp [Builtin.append_, run_underlying Try.underlying22, sizeOf, typeInfo, hi0, Builtin.lenOf, Builtin.firstCells, hnc, storeCells]
  | some ad =>
    obtain ⟨v', w', h1, h2, h5, _, h6⟩ := run_append_own_at (P := Try.prog) w base 22 t 3 i0 (.int .i64 0) 1 8 Try.underlying22 hi0 hz0 hz1 hz2 rfl (by decide) v n xs hown ad l.length cap (l.map (Value.int .i64)) (by simp) (fun j u hj => by
      obtain ⟨h0, hj2⟩ : ∃ h0 : j < l.length, Value.int .i64 l[j] = u := by
        rw [List.getElem?_map] at hj
        rcases Nat.lt_or_ge j l.length with h0 | h0
        · rw [List.getElem?_eq_getElem h0] at hj; exact ⟨h0, by injection hj⟩
        · rw [List.getElem?_eq_none h0] at hj; cases hj
      obtain ⟨e1, _⟩ := h3 (by omega)
      injection e1 with e1
      subst e1
      rw [Gn.add_row, h4 j h0, hj2]) (by simp [Value.oneCell']) (by unfold maxLen; omega) (by omega) hb
    exact ⟨v', w', h1, h2, h5, h6⟩

/-- Block G holds so many slices; each is a row of its own. -/
structure RowsAt (B G n : Nat) (S : Nat → List Int) (f : Nat → Value) (w : World) : Prop where
  block : w.rowIs G 22 n f
  base : B ≤ G
  own : ∀ i, i < n → w.ownsRow (G + 1) 3 1 (f i) (S i).length ((S i).map (Value.int .i64))
  apart : ∀ i j g, i < n → j < n → i ≠ j → (f i).ownBlock = some g → (f j).ownBlock ≠ some g

theorem RowsAt.drew {B G n : Nat} {S : Nat → List Int} {f : Nat → Value} {w : World} (h : RowsAt B G n S f w) : RowsAt B G n S f w.drew :=
  ⟨h.block.drew, h.base, fun i hi => own_of_block (h.own i hi) fun _ _ => rfl, h.apart⟩
/-- Blocks that were there are the same: so are the rows. -/
theorem RowsAt.below {B G n : Nat} {S : Nat → List Int} {f : Nat → Value} {w w' : World} (h : RowsAt B G n S f w) (b : Below w.heap.size w w') : RowsAt B G n S f w' :=
  ⟨h.block.of_block (b.block _ h.block.lt), h.base, fun i hi => own_of_block (h.own i hi) fun _ hg => b.block _ (own_base (h.own i hi) hg).2, h.apart⟩
/-- One row grown, its slice not stored yet; and stored. -/
theorem RowsAt.grow {B G n : Nat} {S : Nat → List Int} {f : Nat → Value} {w w1 : World} (h : RowsAt B G n S f w) (a : Nat) (ha : a < n) (l : List Int) (v' : Value) (hg : w.grownBy w1 (f a).ownBlock)
    (ho : w1.ownsRow (G + 1) 3 1 v' ((S a).length + l.length) ((S a).map (Value.int .i64) ++ l.map (Value.int .i64))) (hv : v'.ownBlock = (f a).ownBlock ∨ v'.ownBlock = some w.heap.size) :
    RowsAt B G n (fun j => if j = a then S a ++ l else S j) (fun j => if j = a then v' else f j) (w1.setCell ⟨G, a, none⟩ v') := by
  have hgl := h.block.lt
  have hGa : ∀ g, (f a).ownBlock = some g → G + 1 ≤ g ∧ g < w.heap.size := fun g hg => own_base (h.own a ha) hg
  have hne : some G ≠ (f a).ownBlock := fun e => by have := hGa G e.symm; omega
  have hblk : ∀ g, g ≠ G → (w1.setCell ⟨G, a, none⟩ v').heap[g]? = w1.heap[g]? := fun g hg => Below.heap_setCell _ _ _ _ hg
  refine ⟨(h.block.of_block (hg.block G hgl hne)).set a v', h.base, fun i hi => ?_, fun i j g hi hj hij h1 h2 => ?_⟩
  · by_cases e : i = a
    · subst e
      simp only [if_true]
      rw [List.length_append, List.map_append]
      exact own_of_block ho fun g hg2 => hblk g (by have := own_base ho hg2; omega)
    · simp only [if_neg e]
      refine own_of_block (h.own i hi) fun g hg2 => ?_
      have hb := own_base (h.own i hi) hg2
      rw [hblk g (by omega)]
      exact hg.block g hb.2 fun e2 => h.apart i a g hi ha e hg2 e2.symm
  · by_cases e : i = a
    · subst e
      simp only [if_true] at h1
      rw [if_neg (fun e2 => hij e2.symm)] at h2
      rcases hv with hv | hv
      · exact h.apart i j g ha hj hij (by rw [← hv]; exact h1) h2
      · rw [hv] at h1
        injection h1 with h1
        have := (own_base (h.own j hj) h2).2
        omega
    · rw [if_neg e] at h1
      by_cases e2 : j = a
      · subst e2
        simp only [if_true] at h2
        rcases hv with hv | hv
        · exact h.apart i j g hi ha hij h1 (by rw [← hv]; exact h2)
        · rw [hv] at h2
          injection h2 with h2
          have := (own_base (h.own i hi) h1).2
          omega
      · rw [if_neg e2] at h2
        exact h.apart i j g hi hj hij h1 h2

/-- Where one goes from a nonterminal. -/
def goS (φ : List Int → List Int) (ps : List Prd) (a : Nat) : List Int := (ps.filter (fun p => p.left == (a : Int))).flatMap (fun p => φ p.right)
theorem goS_snoc (φ : List Int → List Int) (ps : List Prd) (p : Prd) (q : Nat) (hq : p.left = q) (a : Nat) : goS φ (ps ++ [p]) a = if a = q then goS φ ps q ++ φ p.right else goS φ ps a := by
  unfold goS
  rw [List.filter_append, List.flatMap_append]
  by_cases e : a = q
  · subst e
    rw [if_pos rfl, List.filter_cons_of_pos (by rw [hq]; simp)]
    simp
  · rw [if_neg e, List.filter_cons_of_neg (by rw [hq]; simp; omega)]
    simp
theorem goS_len (φ : List Int → List Int) (m : Nat) (hφ : ∀ r, (φ r).length ≤ r.length) (ps : List Prd) (h : ∀ p ∈ ps, p.right.length ≤ m) (a : Nat) : (goS φ ps a).length ≤ ps.length * m := by
  induction ps with
  | nil => simp [goS]
  | cons p r ih =>
    have h1 := ih fun p hp => h p (by simp [hp])
    have h2 := h p (by simp)
    have h3 := hφ p.right
    unfold goS at h1 ⊢
    rw [List.length_cons, Nat.add_mul, Nat.one_mul]
    by_cases e : (p.left == (a : Int)) = true
    · rw [List.filter_cons_of_pos (p := fun p : Prd => p.left == (a : Int)) e, List.flatMap_cons, List.length_append]; omega
    · rw [List.filter_cons_of_neg (p := fun p : Prd => p.left == (a : Int)) e]; omega
end Go.Proofs.Ytlkijnglpllcdaa.Fx
