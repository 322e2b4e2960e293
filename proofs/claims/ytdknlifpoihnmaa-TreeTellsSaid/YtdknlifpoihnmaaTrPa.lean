/-
  Layer 14: pieces of rows of trees, appended.
-/
import Derived.Test.YtdknlifpoihnmaaTrF
import Derived.Test.YtdknlifpoihnmaaTrYa
namespace Go.Proofs.Ytdknlifpoihnmaa.Tr
open Go.RowKit
open Fx (own_of_block own_base cells2 cells2_at)
set_option maxRecDepth 100000
set_option linter.unusedSimpArgs false
set_option linter.unusedVariables false

/-- These pairs of cells are these trees, whose rows lie in between. -/
def PairsAt (lo hi : Nat) (w : World) (ts : List Tr) (vs : List (Value × Value)) : Prop := vs.length = ts.length ∧ ∀ (i : Nat) (h : i < ts.length) (h2 : i < vs.length), TrAt (fun r => lo ≤ r ∧ r < hi) w ts[i] vs[i].1 vs[i].2
theorem PairsAt.keep {lo hi : Nat} {w w' : World} {ts : List Tr} {vs : List (Value × Value)} (h : PairsAt lo hi w ts vs) (hs : w.heap.size ≤ w'.heap.size) (hb : ∀ r, lo ≤ r → r < hi → r < w.heap.size → w'.heap[r]? = w.heap[r]?) : PairsAt lo hi w' ts vs :=
  ⟨h.1, fun i h1 h2 => (h.2 i h1 h2).keep hs fun r hr hz => ⟨hr, fun j => Gn.cell_same (hb r hr.1 hr.2 hz) j⟩⟩
theorem PairsAt.app {lo hi : Nat} {w : World} {ts us : List Tr} {vs xs : List (Value × Value)} (h : PairsAt lo hi w ts vs) (k : PairsAt lo hi w us xs) : PairsAt lo hi w (ts ++ us) (vs ++ xs) := by
  refine ⟨by rw [List.length_append, List.length_append, h.1, k.1], fun i h1 h2 => ?_⟩
  by_cases hi2 : i < ts.length
  · have e1 : (ts ++ us)[i] = ts[i] := List.getElem_append_left hi2
    have e2 : (vs ++ xs)[i] = vs[i]'(by rw [h.1]; exact hi2) := List.getElem_append_left (by rw [h.1]; exact hi2)
    rw [e1, e2]
    exact h.2 i hi2 _
  · have e1 : (ts ++ us)[i] = us[i - ts.length]'(by rw [List.length_append] at h1; omega) := List.getElem_append_right (by omega)
    have e2 : (vs ++ xs)[i] = xs[i - ts.length]'(by rw [k.1]; rw [List.length_append] at h1; omega) := by
      rw [List.getElem_append_right (by rw [h.1]; omega)]
      simp only [h.1]
    rw [e1, e2]
    exact k.2 _ _ _
theorem PairsAt.take {lo hi : Nat} {w : World} {ts : List Tr} {vs : List (Value × Value)} (h : PairsAt lo hi w ts vs) (k : Nat) : PairsAt lo hi w (ts.take k) (vs.take k) := by
  refine ⟨by rw [List.length_take, List.length_take, h.1], fun i h1 h2 => ?_⟩
  rw [List.getElem_take, List.getElem_take]
  exact h.2 i _ _
theorem PairsAt.drop {lo hi : Nat} {w : World} {ts : List Tr} {vs : List (Value × Value)} (h : PairsAt lo hi w ts vs) (k : Nat) : PairsAt lo hi w (ts.drop k) (vs.drop k) := by
  refine ⟨by rw [List.length_drop, List.length_drop, h.1], fun i h1 h2 => ?_⟩
  rw [List.getElem_drop, List.getElem_drop]
  exact h.2 _ _ _
theorem PairsAt.one {lo hi : Nat} {w : World} {t : Tr} {x y : Value} (h : TrAt (fun r => lo ≤ r ∧ r < hi) w t x y) : PairsAt lo hi w [t] [(x, y)] :=
  ⟨rfl, fun i h1 h2 => by
    have e : i = 0 := by simp at h1; omega
    subst e
    exact h⟩
theorem cells2_get (vs : List (Value × Value)) (j : Nat) (u : Value) (h : (cells2 vs)[j]? = some u) : ∃ (i : Nat) (hi : i < vs.length), (j = i * 2 ∧ u = vs[i].1) ∨ (j = i * 2 + 1 ∧ u = vs[i].2) := by
  induction vs generalizing j with
  | nil => simp [cells2] at h
  | cons a r ih =>
    have e : cells2 (a :: r) = a.1 :: a.2 :: cells2 r := by simp [cells2]
    rw [e] at h
    match j with
    | 0 => exact ⟨0, by simp, .inl ⟨rfl, by simpa using h.symm⟩⟩
    | 1 => exact ⟨0, by simp, .inr ⟨rfl, by simpa using h.symm⟩⟩
    | j + 2 =>
      obtain ⟨i, hi, h1⟩ := ih j (by simpa using h)
      refine ⟨i + 1, by simp; omega, ?_⟩
      rcases h1 with ⟨h1, h2⟩ | ⟨h1, h2⟩
      · exact .inl ⟨by omega, by simpa using h2⟩
      · exact .inr ⟨by omega, by simpa using h2⟩
theorem cells2_len (vs : List (Value × Value)) : (cells2 vs).length = vs.length * 2 := by
  induction vs with
  | nil => simp [cells2]
  | cons a r ih =>
    have e : cells2 (a :: r) = a.1 :: a.2 :: cells2 r := by simp [cells2]
    rw [e]
    simp [ih]
    omega
theorem cells2_app (a b : List (Value × Value)) : cells2 (a ++ b) = cells2 a ++ cells2 b := by simp [cells2]
theorem tr_low {lo : Nat} {w : World} {t : Tr} {x y : Value} (h : TrAt (fun r => lo ≤ r) w t x y) : TrAt (fun r => lo ≤ r ∧ r < w.heap.size) w t x y := h.keep (Nat.le_refl _) fun r hr hz => ⟨⟨hr, hz⟩, fun _ => rfl⟩
/-- A row of trees opened: its pairs, and where they lie. -/
theorem TrsAt.pairs {lo : Nat} {w : World} {l : List Tr} {A : Option Addr} {m cap : Nat} (h : TrsAt (fun r => lo ≤ r) w l (.slice A m cap)) : m = l.length ∧ m ≤ cap ∧ ∃ (vs : List (Value × Value)) (q : Nat), PairsAt lo w.heap.size w l vs ∧ (0 < m → A = some ⟨q, 0, none⟩ ∧ q < w.heap.size ∧ lo ≤ q) ∧ ∀ (i : Nat) (hi : i < vs.length), w.cell? ⟨q, i * 2, none⟩ = some vs[i].1 ∧ w.cell? ⟨q, i * 2 + 1, none⟩ = some vs[i].2 := by
  obtain ⟨A2, c2, r, a, b, e, hc, h3, h4⟩ := h
  injection e with e1 e2 e3
  subst e1 e2 e3
  refine ⟨rfl, hc, (List.range l.length).map (fun i => (a i, b i)), r, ⟨by simp, fun i h1 h2 => ?_⟩, h3, fun i hi => ?_⟩
  · simp only [List.getElem_map, List.getElem_range]
    have := (h4 i h1).2
    exact tr_low this
  · have hi2 : i < l.length := by simpa using hi
    simp only [List.getElem_map, List.getElem_range]
    exact (h4 i hi2).1
/-- Pairs of an own row: a row of trees. -/
theorem PairsAt.trs {lo hi base : Nat} {w : World} {ts : List Tr} {vs : List (Value × Value)} {v : Value} (h : PairsAt lo hi w ts vs) (ho : w.ownsRow base 39 2 v ts.length (cells2 vs)) (hb : lo ≤ base) : TrsAt (fun r => lo ≤ r) w ts v := by
  rcases ho.2 with ⟨rfl, hn⟩ | ⟨g, cp, cur, rfl, hbr, hh, hnc, _⟩
  · have e : ts = [] := List.eq_nil_of_length_eq_zero hn
    subst e
    exact ⟨none, 0, 0, fun _ => .bool false, fun _ => .bool false, rfl, by simp, fun h => absurd h (by simp), fun i h => absurd h (by simp)⟩
  · have hcell := ho.cells (g := g) rfl
    refine ⟨some ⟨g, 0, none⟩, cp, g, fun i => (vs.getD i (.bool false, .bool false)).1, fun i => (vs.getD i (.bool false, .bool false)).2, rfl, hnc, fun _ => ⟨rfl, Gn.heap_lt hh, by omega⟩, fun i hi => ?_⟩
    have hv := h.1
    have e : vs.getD i (.bool false, .bool false) = vs[i]'(by omega) := by simp [List.getD, List.getElem?_eq_getElem (show i < vs.length by omega)]
    obtain ⟨c1, c2⟩ := cells2_at vs i (by omega)
    have n2 := h.2 i hi (by omega)
    simp only [e]
    refine ⟨⟨?_, ?_⟩, n2.keep (Nat.le_refl _) fun r hp _ => ⟨hp.1, fun _ => rfl⟩⟩
    · have := hcell _ _ c1; rwa [Gn.add_row] at this
    · have := hcell _ _ c2; rwa [Gn.add_row] at this
/-- Where a piece's cells lie. -/
def LiesAt (w : World) (ad : Addr) (vs : List (Value × Value)) : Prop := ∀ j u, (cells2 vs)[j]? = some u → w.cell? (ad.add j) = some u
theorem lies_piece {w : World} {q : Nat} {vs : List (Value × Value)} (h : ∀ (i : Nat) (hi : i < vs.length), w.cell? ⟨q, i * 2, none⟩ = some vs[i].1 ∧ w.cell? ⟨q, i * 2 + 1, none⟩ = some vs[i].2) (o k : Nat) : LiesAt w ⟨q, o * 2, none⟩ ((vs.drop o).take k) := by
  intro j u hj
  obtain ⟨i, hi, h1⟩ := cells2_get _ j u hj
  have hi2 : i < (vs.drop o).length := by rw [List.length_take] at hi; omega
  have hi3 : o + i < vs.length := by rw [List.length_drop] at hi2; omega
  have e : ((vs.drop o).take k)[i] = vs[o + i] := by rw [List.getElem_take, List.getElem_drop]
  have ea : ∀ n, (⟨q, o * 2, none⟩ : Addr).add n = ⟨q, o * 2 + n, none⟩ := fun n => by unfold Addr.add; split <;> simp_all
  obtain ⟨c1, c2⟩ := h (o + i) hi3
  rcases h1 with ⟨rfl, rfl⟩ | ⟨rfl, rfl⟩
  · rw [ea, e, show o * 2 + i * 2 = (o + i) * 2 by omega]
    exact c1
  · rw [ea, e, show o * 2 + (i * 2 + 1) = (o + i) * 2 + 1 by omega]
    exact c2
theorem lies_none {w : World} {ad : Addr} : LiesAt w ad [] := fun j u h => by simp [cells2] at h
theorem pairs_one {lo hi : Nat} {w : World} {ts : List Tr} {vs : List (Value × Value)} (h : PairsAt lo hi w ts vs) : ∀ u ∈ cells2 vs, u.oneCell' = true := by
  intro u hu
  obtain ⟨j, hj, e⟩ := List.getElem_of_mem hu
  obtain ⟨i, hi, h1⟩ := cells2_get vs j u (by rw [List.getElem?_eq_getElem hj, e])
  have ht := h.2 i (by rw [← h.1]; exact hi) hi
  obtain ⟨n, A, m, c, f1, f2⟩ := ht.form
  rcases h1 with ⟨_, rfl⟩ | ⟨_, rfl⟩
  · rw [f1]; rfl
  · rw [f2]; rfl
/-- append of a piece of a row of trees, empty or not, onto an own row. -/
theorem run_append_pairs (t : TypeId) (w : World) (base : Nat) (v : Value) (n : Nat) (xs : List Value) (hown : w.ownsRow base 39 2 v n xs) {lo hi : Nat} {us : List Tr} {vs : List (Value × Value)} (hp : PairsAt lo hi w us vs) (u : Value) (k : Nat) (hk : us.length = k)
    (hu : (k = 0 ∧ u = .slice none 0 0) ∨ ∃ ad c, u = .slice (some ad) k c ∧ LiesAt w ad vs) (hm : n + k ≤ 1099511627776) (hb : base ≤ w.heap.size) :
    ∃ v' w', (Builtin.append_ #[37, 37] t #[v, u]).run Try.prog w = .ok v' w' ∧ w'.ownsRow base 39 2 v' (n + k) (xs ++ cells2 vs) ∧ w.grownBy w' v.ownBlock ∧ (v'.ownBlock = v.ownBlock ∨ v'.ownBlock = some w.heap.size) := by
  obtain ⟨i0, hi0, hz0, hz1, hz2⟩ := info_parts trinfo
  rcases hu with ⟨rfl, rfl⟩ | ⟨ad, c, rfl, hl⟩
  · have e : vs = [] := List.eq_nil_of_length_eq_zero (by rw [hp.1, hk])
    subst e
    refine ⟨v, w, ?_, by simpa [cells2] using hown, ⟨rfl, rfl, rfl, Nat.le_refl _, fun _ _ _ => rfl⟩, .inl rfl⟩
    rcases hown.2 with ⟨rfl, rfl⟩ | ⟨g, cap, cur, rfl, _, _, hnc, _⟩
    · simp [Builtin.append_, run_underlying Try.underlying37, sizeOf, typeInfo, hi0, Builtin.lenOf, Builtin.firstCells]
    · simp [Builtin.append_, run_underlying Try.underlying37, sizeOf, typeInfo, hi0, Builtin.lenOf, Builtin.firstCells, hnc, storeCells]
  · obtain ⟨v', w', h1, h2, h5, _, h6⟩ := run_append_own_at (P := Try.prog) w base 37 t 39 i0 _ 2 32 Try.underlying37 hi0 hz0 hz1 hz2 rfl (by decide) v n xs hown ad k c (cells2 vs) (by rw [cells2_len, hp.1, hk]) hl (pairs_one hp) (by unfold maxLen; omega) (by omega) hb
    exact ⟨v', w', h1, h2, h5, h6⟩
theorem step_append_pairs {ops : Array Oper} {o : Oper} {a : Act} {K : Act → World → Prop} {Q : Exit → Act → World → Prop} {E : Prop} (w : World) (hgd : o.guard = none) (s x : Operand)
    (ho : o.op = .call { callee := .builtin .append, args := #[s, x], argTypes := #[37, 37] })
    (base : Nat) (v : Value) (n : Nat) (xs : List Value) (hs : a.eval s = v) (hown : w.ownsRow base 39 2 v n xs) {lo hi : Nat} {us : List Tr} {vs : List (Value × Value)} (hp : PairsAt lo hi w us vs) (u : Value) (hx : a.eval x = u) (k : Nat) (hk : us.length = k)
    (hu : (k = 0 ∧ u = .slice none 0 0) ∨ ∃ ad c, u = .slice (some ad) k c ∧ LiesAt w ad vs) (hm : n + k ≤ 1099511627776) (hb : base ≤ w.heap.size)
    (h : ∀ v' w', w'.ownsRow base 39 2 v' (n + k) (xs ++ cells2 vs) → w.grownBy w' v.ownBlock → (v'.ownBlock = v.ownBlock ∨ v'.ownBlock = some w.heap.size) → K (a.put o.dst v') w') :
    if Region.wanted o (yielded ops a.tmps) = true then Oper.wp Try.prog o a w K Q else E := by
  have hw : Region.wanted o (yielded ops a.tmps) = true := by simp [Region.wanted, hgd]
  rw [if_pos hw]
  obtain ⟨v', w', hr, h2, h3, h4⟩ := run_append_pairs o.type w base v n xs hown hp u k hk hu hm hb
  unfold Oper.wp execOp
  simp only [ho, resolve, invoke, builtin, Sem.run_bind, Sem.run_pure, Result.andThen_ok, List.map_toArray, List.map_cons, List.map_nil, hs, hx, hr]
  exact h v' w' h2 h3 h4
end Go.Proofs.Ytdknlifpoihnmaa.Tr
