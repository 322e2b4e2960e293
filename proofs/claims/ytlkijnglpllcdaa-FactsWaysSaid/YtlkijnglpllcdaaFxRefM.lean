/-
  The document's answers of facts: what holds of the sets when a pass adds nothing.
-/
import Derived.Test.YtlkijnglpllcdaaFxFitM
namespace Go.Proofs.Ytlkijnglpllcdaa.Fx
open Go.RowKit
set_option maxRecDepth 100000

/-- How many are not in a set of the first n. -/
def cntN (O : Nat → Bool) : Nat → Nat
  | 0 => 0
  | n + 1 => cntN O n + if O n = true then 0 else 1
def updN (O : Nat → Bool) (q : Nat) : Nat → Bool := fun i => if i = q then true else O i
theorem cntN_le {O O' : Nat → Bool} (h : ∀ i, O i = true → O' i = true) : ∀ n, cntN O' n ≤ cntN O n
  | 0 => Nat.le_refl _
  | n + 1 => by
    have ih := cntN_le h n
    rw [cntN, cntN]
    by_cases e : O n = true
    · rw [if_pos e, if_pos (h n e)]; omega
    · rw [if_neg e]; split <;> omega
theorem updN_mono (O : Nat → Bool) (q i : Nat) (h : O i = true) : updN O q i = true := by
  unfold updN; split
  · rfl
  · exact h
theorem cntN_upd {O : Nat → Bool} {q : Nat} (hO : O q = false) : ∀ n, q < n → cntN (updN O q) n < cntN O n
  | 0, h => absurd h (by omega)
  | n + 1, h => by
    rw [cntN, cntN]
    by_cases e : q = n
    · subst e
      have := cntN_le (updN_mono O q) q
      rw [if_pos (show updN O q q = true by unfold updN; rw [if_pos rfl]), if_neg (by rw [hO]; decide)]
      omega
    · have ih := cntN_upd hO n (by omega)
      have e2 : updN O q n = O n := by unfold updN; rw [if_neg (fun h => e h.symm)]
      rw [e2]
      omega
def ffV : Value → Nat
  | .bool false => 1
  | _ => 0
def ffW (W : World) (b : Nat) : Nat := match W.heap[b]? with | some (.cells cs _ _) => (cs.toList.map ffV).sum | _ => 0
theorem ffW_is {W : World} {b n : Nat} {T : TypeId} {O : Nat → Bool} (h : W.rowIs b T n (fun i => .bool (O i))) : ffW W b = cntN O n := by
  obtain ⟨c, hb, hn, hc⟩ := h
  unfold ffW
  rw [hb]
  have e : c.toList = (List.range n).map fun i => Value.bool (O i) := by
    refine List.ext_getElem (by simp [hn]) fun i h1 h2 => ?_
    have := hc i (by simpa using h2)
    rw [Array.getElem?_eq_some_iff] at this
    obtain ⟨h3, h4⟩ := this
    simpa using h4
  show (c.toList.map ffV).sum = _
  rw [e]
  clear e hc hn hb
  induction n with
  | zero => rfl
  | succ n ih =>
    rw [List.range_succ, List.map_append, List.map_append, List.sum_append, ih, cntN]
    cases h : O n <;> simp [ffV, h]

/-- A pass over the first productions. -/
def PassN (fx : (Nat → Bool) → Prd → Prop) (ps : List Prd) (n : Nat) (O0 O : Nat → Bool) (k : Nat) (b : Bool) : Prop := (b = false → O = O0 ∧ ∀ (j : Nat) (h : j < ps.length), j < k → fx O0 ps[j]) ∧ (b = true → cntN O n < cntN O0 n)
theorem PassN.same {fx : (Nat → Bool) → Prd → Prop} {ps : List Prd} {n : Nat} {O0 O : Nat → Bool} {k : Nat} {b : Bool} {h : k < ps.length} (hp : PassN fx ps n O0 O k b) (hf : b = false → fx O ps[k]) : PassN fx ps n O0 O (k + 1) b := by
  refine ⟨fun hb => ?_, hp.2⟩
  obtain ⟨h1, h2⟩ := hp.1 hb
  refine ⟨h1, fun j hj hjk => ?_⟩
  by_cases e : j = k
  · subst e; rw [← h1]; exact hf hb
  · exact h2 j hj (by omega)
theorem PassN.less {fx : (Nat → Bool) → Prd → Prop} {ps : List Prd} {n : Nat} {O0 O O' : Nat → Bool} {k k' : Nat} {b : Bool} (hp : PassN fx ps n O0 O k b) (hl : cntN O' n < cntN O n) : PassN fx ps n O0 O' k' true := by
  refine ⟨(fun h => by cases h), fun _ => ?_⟩
  cases b
  · rw [(hp.1 rfl).1] at hl; exact hl
  · have := hp.2 rfl; omega

/-! ### Who has the empty word -/
def allN (O : Nat → Bool) (r : List Int) : Bool := r.all fun s => decide (0 ≤ s) && O s.toNat
theorem allN_snoc (O : Nat → Bool) (r : List Int) (s : Int) : allN O (r ++ [s]) = (allN O r && (decide (0 ≤ s) && O s.toNat)) := by simp [allN]
def NulOk (g : PG) (O : Nat → Bool) : Prop := ∀ i, O i = true → ∀ L, Least g L → L.getD i (-1) = 0
def NulFx (O : Nat → Bool) (p : Prd) : Prop := allN O p.right = true → O p.left.toNat = true
theorem shGo_nil {L : List Int} : ∀ (r : List Int), (∀ s ∈ r, shOf L s = 0) → shGo L 0 r = 0
  | [], _ => rfl
  | s :: r, h => by
    have h1 := h s (by simp)
    rw [shGo, h1, if_neg (by decide)]
    exact shGo_nil r fun x hx => h x (List.mem_cons_of_mem _ hx)
theorem shGo_zero {L : List Int} (hL : LensOk L) : ∀ (r : List Int) (a : Int), 0 ≤ a → shGo L a r = 0 → a = 0 ∧ ∀ s ∈ r, shOf L s = 0
  | [], a, _, h => by rw [shGo] at h; exact ⟨h, fun s hs => by cases hs⟩
  | s :: r, a, h0, h => by
    rw [shGo] at h
    have h3 := shOf_ok hL s
    by_cases e : shOf L s = -1
    · rw [if_pos e] at h; omega
    · rw [if_neg e] at h
      obtain ⟨h1, h2⟩ := shGo_zero hL r _ (by omega) h
      refine ⟨by omega, fun x hx => ?_⟩
      rcases List.mem_cons.1 hx with rfl | hx
      · omega
      · exact h2 x hx
theorem nul_step {g : PG} {O : Nat → Bool} (h : NulOk g O) {p : Prd} (hp : p ∈ g.prods) {q : Nat} (hq : p.left = (q : Int)) (ha : allN O p.right = true) : NulOk g (updN O q) := by
  intro i hi L hL
  by_cases e : i = q
  · subst e
    have h1 : shRow L p.right = 0 := shGo_nil _ fun s hs => by
      unfold allN at ha
      have := List.all_eq_true.1 ha s hs
      simp only [Bool.and_eq_true, decide_eq_true_eq] at this
      unfold shOf
      rw [if_neg (by omega)]
      exact h _ this.2 L hL
    have h2 := fix_of hL.fix hp (by rw [h1]; decide)
    rw [hq, h1] at h2
    have h3 : -1 ≤ L.getD i (-1) := by
      rcases Nat.lt_or_ge i L.length with h4 | h4
      · rw [List.getD_eq_getElem?_getD, List.getElem?_eq_getElem h4]
        exact ((runs_ok hL.runs).2 _ (List.getElem_mem h4)).1
      · rw [List.getD_eq_getElem?_getD, List.getElem?_eq_none h4]; decide
    have h5 : L.getD i (-1) ≠ -1 := by simpa using h2.1
    have h6 : L.getD i (-1) ≤ 0 := by simpa using h2.2
    omega
  · refine h i ?_ L hL
    unfold updN at hi
    rwa [if_neg e] at hi
theorem nul_fix {g : PG} {O : Nat → Bool} (hf : ∀ p ∈ g.prods, NulFx O p) {M : List Int} (hM : Runs g M) : ∀ i : Nat, M.getD i (-1) = 0 → O i = true := by
  induction hM with
  | start =>
    intro i h
    exfalso
    rw [List.getD_eq_getElem?_getD] at h
    rcases Nat.lt_or_ge i g.names.length with h1 | h1
    · rw [List.getElem?_eq_getElem (by simpa using h1)] at h; simp at h
    · rw [List.getElem?_eq_none (by simpa using h1)] at h; simp at h
  | step M p k hM hp hk hk2 h1 h2 ih =>
    intro i hi
    by_cases e : i = k
    · subst e
      have hl : i < M.length := by rw [(runs_ok hM).1]; exact hk2
      have e1 : (M.set i (shRow M p.right)).getD i (-1) = shRow M p.right := by rw [List.getD_eq_getElem?_getD, List.getElem?_set_self hl]; rfl
      rw [e1] at hi
      have h3 := (shGo_zero (runs_ok hM).2 p.right 0 (by omega) hi).2
      have := hf p hp (by
        unfold allN
        refine List.all_eq_true.2 fun s hs => ?_
        have h4 := h3 s hs
        unfold shOf at h4
        by_cases e2 : s < 0
        · rw [if_pos e2] at h4; cases h4
        · rw [if_neg e2] at h4
          rw [ih _ h4, decide_eq_true (by omega)]; rfl)
      rw [hk] at this
      exact this
    · have e1 : (M.set k (shRow M p.right)).getD i (-1) = M.getD i (-1) := by rw [List.getD_eq_getElem?_getD, List.getElem?_set_ne (by omega), ← List.getD_eq_getElem?_getD]
      rw [e1] at hi
      exact ih i hi
theorem nul_is {g : PG} {O : Nat → Bool} (h : NulOk g O) (hf : ∀ p ∈ g.prods, NulFx O p) {L : List Int} (hL : Least g L) (i : Nat) : O i = (L.getD i (-1) == 0) := by
  cases e : O i
  · cases e2 : (L.getD i (-1) == 0)
    · rfl
    · rw [nul_fix hf hL.runs i (by simpa using e2)] at e; cases e
  · rw [h i e L hL]; rfl

/-! ### What is come to -/
def RchOk (g : PG) (O : Nat → Bool) : Prop := ∀ i : Nat, O i = true → Come (goS id g.prods) [g.start] (i : Int)
def RchFx (O : Nat → Bool) (p : Prd) : Prop := O p.left.toNat = true → ∀ s ∈ p.right, 0 ≤ s → O s.toNat = true
theorem rch_step {g : PG} {O : Nat → Bool} (h : RchOk g O) {p : Prd} (hp : p ∈ g.prods) {q : Nat} (hq : p.left = (q : Int)) (ho : O q = true) {t : Nat} (hs : (t : Int) ∈ p.right) : RchOk g (updN O t) := by
  intro i hi
  by_cases e : i = t
  · subst e
    exact fit_reach hp hq hs (h q ho)
  · refine h i ?_
    unfold updN at hi
    rwa [if_neg e] at hi
theorem rch_fix {g : PG} {O : Nat → Bool} (hf : ∀ p ∈ g.prods, RchFx O p) {st : Nat} (hst : g.start = (st : Int)) (ho : O st = true) {x : Int} (h : Come (goS id g.prods) [g.start] x) : 0 ≤ x → O x.toNat = true := by
  induction h with
  | base x hx =>
    intro _
    rw [List.mem_singleton.1 hx, hst]
    exact ho
  | step a y _ hy ih =>
    intro h0
    obtain ⟨p, hp, hk, hy⟩ := goS_back hy
    exact hf p hp (by rw [hk]; exact ih (by omega)) y hy h0
theorem rch_is {g : PG} {O : Nat → Bool} (h : RchOk g O) (hf : ∀ p ∈ g.prods, RchFx O p) {st : Nat} (hst : g.start = (st : Int)) (ho : O st = true) (i : Nat) : O i = true ↔ Come (goS id g.prods) [g.start] (i : Int) :=
  ⟨h i, fun hc => rch_fix hf hst ho hc (by omega)⟩

/-! ### Lengths -/
theorem shGo_app {L : List Int} (hL : LensOk L) (y : List Int) : ∀ (x : List Int) (a : Int), 0 ≤ a → shGo L a (x ++ y) = if shGo L a x = -1 then -1 else shGo L (shGo L a x) y
  | [], a, h0 => by
    rw [List.nil_append, shGo, if_neg (by omega)]
  | s :: x, a, h0 => by
    have h3 := shOf_ok hL s
    rw [List.cons_append, shGo, shGo]
    by_cases e : shOf L s = -1
    · rw [if_pos e, if_pos e, if_pos rfl]
    · rw [if_neg e, if_neg e]
      exact shGo_app hL y x _ (by omega)
theorem shRow_snoc {L : List Int} (hL : LensOk L) (r : List Int) (s : Int) : shRow L (r ++ [s]) = if shRow L r = -1 then -1 else if shOf L s = -1 then -1 else min (shRow L r + shOf L s) 1099511627776 := by
  unfold shRow
  rw [shGo_app hL [s] r 0 (by omega), shGo, shGo]
theorem shRow_pre {L : List Int} (hL : LensOk L) (r : List Int) (j : Nat) (h : shRow L (r.take j) = -1) : shRow L r = -1 := by
  unfold shRow at h ⊢
  rw [← List.take_append_drop j r, shGo_app hL _ _ 0 (by omega), if_pos h]
end Go.Proofs.Ytlkijnglpllcdaa.Fx
