/-
  The document's First: rows of truth values, and what holds of them when a pass adds nothing.
-/
import Derived.Test.YtlkijnglpllcdaaFxTold
import Derived.Test.YtlkijnglpllcdaaFxRfLp
namespace Go.Proofs.Ytlkijnglpllcdaa.Fx
open Go.RowKit
set_option maxRecDepth 100000
set_option linter.unusedVariables false

abbrev Bits := Nat → Nat → Bool
def upd2 (O : Bits) (q t : Nat) : Bits := fun i => if i = q then updN (O q) t else O i
def cnt2 (O : Bits) (m : Nat) : Nat → Nat
  | 0 => 0
  | n + 1 => cnt2 O m n + cntN (O n) m
theorem cnt2_same {O O' : Bits} {m : Nat} : ∀ n, (∀ i, i < n → O' i = O i) → cnt2 O' m n = cnt2 O m n
  | 0, _ => rfl
  | n + 1, h => by rw [cnt2, cnt2, cnt2_same n (fun i hi => h i (by omega)), h n (by omega)]
theorem cnt2_upd {O : Bits} {q t m : Nat} (hO : O q t = false) (ht : t < m) : ∀ n, q < n → cnt2 (upd2 O q t) m n < cnt2 O m n
  | 0, h => absurd h (by omega)
  | n + 1, h => by
    rw [cnt2, cnt2]
    by_cases e : q = n
    · subst e
      have e1 : cnt2 (upd2 O q t) m q = cnt2 O m q := cnt2_same q fun i hi => by unfold upd2; rw [if_neg (by omega)]
      have e2 : upd2 O q t q = updN (O q) t := by unfold upd2; rw [if_pos rfl]
      rw [e1, e2]
      have := cntN_upd hO m ht
      omega
    · have ih := cnt2_upd hO ht n (by omega)
      have e2 : upd2 O q t n = O n := by unfold upd2; rw [if_neg (fun h => e h.symm)]
      rw [e2]
      omega
theorem upd2_mono (O : Bits) (q t i j : Nat) (h : O i j = true) : upd2 O q t i j = true := by
  unfold upd2
  split
  · rename_i e; subst e; exact updN_mono _ _ _ h
  · exact h
def ffWs (W : World) (R : Nat → Nat) : Nat → Nat
  | 0 => 0
  | n + 1 => ffWs W R n + ffW W (R n)
theorem ffWs_is {W : World} {R : Nat → Nat} {m : Nat} {T : TypeId} {O : Bits} : ∀ n, (∀ i, i < n → W.rowIs (R i) T m (fun t => .bool (O i t))) → ffWs W R n = cnt2 O m n
  | 0, _ => rfl
  | n + 1, h => by rw [ffWs, cnt2, ffWs_is n (fun i hi => h i (by omega)), ffW_is (h n (by omega))]
/-- A pass over the first productions. -/
def PassM (fx : Bits → Prd → Prop) (ps : List Prd) (m n : Nat) (O0 O : Bits) (k : Nat) (b : Bool) : Prop := (b = false → O = O0 ∧ ∀ (j : Nat) (h : j < ps.length), j < k → fx O0 ps[j]) ∧ (b = true → cnt2 O m n < cnt2 O0 m n)
theorem PassM.same {fx : Bits → Prd → Prop} {ps : List Prd} {m n : Nat} {O0 O : Bits} {k : Nat} {b : Bool} {h : k < ps.length} (hp : PassM fx ps m n O0 O k b) (hf : b = false → fx O ps[k]) : PassM fx ps m n O0 O (k + 1) b := by
  refine ⟨fun hb => ?_, hp.2⟩
  obtain ⟨h1, h2⟩ := hp.1 hb
  refine ⟨h1, fun j hj hjk => ?_⟩
  by_cases e : j = k
  · subst e; rw [← h1]; exact hf hb
  · exact h2 j hj (by omega)
theorem PassM.less {fx : Bits → Prd → Prop} {ps : List Prd} {m n : Nat} {O0 O O' : Bits} {k k' : Nat} {b : Bool} (hp : PassM fx ps m n O0 O k b) (hl : cnt2 O' m n < cnt2 O m n) : PassM fx ps m n O0 O' k' true := by
  refine ⟨(fun h => by cases h), fun _ => ?_⟩
  cases b
  · rw [(hp.1 rfl).1] at hl; exact hl
  · have := hp.2 rfl; omega

/-- A symbol brings a terminal. -/
def hitB (O : Bits) (s : Int) (t : Nat) : Bool := decide (s = -1 - (t : Int)) || (decide (0 ≤ s) && O s.toNat t)
def FsFx (L : List Int) (m : Nat) (O : Bits) (p : Prd) : Prop := ∀ s ∈ aheadL L p.right, ∀ t, t < m → hitB O s t = true → O p.left.toNat t = true
def FsOk (S : Nat → List Int) (O : Bits) : Prop := ∀ i t : Nat, O i t = true → Come S (S i) (-1 - (t : Int))
theorem fs_step {S : Nat → List Int} {O : Bits} (h : FsOk S O) {q t : Nat} {s : Int} (hs : s ∈ S q) (hh : hitB O s t = true) : FsOk S (upd2 O q t) := by
  intro i j hij
  unfold upd2 at hij
  by_cases e : i = q
  · subst e
    rw [if_pos rfl] at hij
    unfold updN at hij
    by_cases e2 : j = t
    · subst e2
      unfold hitB at hh
      rw [Bool.or_eq_true, decide_eq_true_iff, Bool.and_eq_true, decide_eq_true_iff] at hh
      rcases hh with rfl | ⟨h0, ho⟩
      · exact .base _ hs
      · have h1 := h _ _ ho
        exact Come.trans (.base _ (by rw [show ((s.toNat : Nat) : Int) = s by omega]; exact hs)) h1
    · rw [if_neg e2] at hij
      exact h i j hij
  · rw [if_neg e] at hij
    exact h i j hij
theorem fs_back {L : List Int} {ps : List Prd} {m : Nat} {O : Bits} (hf : ∀ p ∈ ps, FsFx L m O p) {i t : Nat} (ht : t < m) {x : Int} (h : Come (goS (aheadL L) ps) (goS (aheadL L) ps i) x) : hitB O x t = true → O i t = true := by
  have one : ∀ (a : Nat) (y : Int), y ∈ goS (aheadL L) ps a → hitB O y t = true → O a t = true := fun a y hy hh => by
    obtain ⟨p, hp, hl, hy⟩ := goS_back hy
    have := hf p hp y hy t ht hh
    rw [hl] at this
    exact this
  induction h with
  | base x hx => exact one i x hx
  | step a y _ hy ih =>
    intro hh
    refine ih ?_
    unfold hitB
    rw [decide_eq_true (show (0 : Int) ≤ (a : Int) by omega), show ((a : Int).toNat) = a from rfl, one a y hy hh]
    simp
theorem fs_is {L : List Int} {ps : List Prd} {m : Nat} {O : Bits} (h : FsOk (goS (aheadL L) ps) O) (hf : ∀ p ∈ ps, FsFx L m O p) (i t : Nat) (ht : t < m) : O i t = true ↔ Come (goS (aheadL L) ps) (goS (aheadL L) ps i) (-1 - (t : Int)) :=
  ⟨h i t, fun hc => fs_back hf ht hc (by unfold hitB; rw [decide_eq_true rfl]; rfl)⟩

/-- The symbols that a word may begin with: all of length 0, up to the first that isn't. -/
def nulB (L : List Int) (r : List Int) : Bool := r.all fun s => decide (0 ≤ s) && (L.getD s.toNat (-1) == 0)
theorem nulB_snoc (L r : List Int) (s : Int) : nulB L (r ++ [s]) = (nulB L r && (decide (0 ≤ s) && (L.getD s.toNat (-1) == 0))) := by simp [nulB]
theorem ahead_pre {L : List Int} (x y : List Int) : nulB L x = true → aheadGo L (x ++ y) = x ++ aheadGo L y := by
  induction x with
  | nil => intro _; rfl
  | cons s x ih =>
    intro h
    have e2 : nulB L (s :: x) = ((decide (0 ≤ s) && (L.getD s.toNat (-1) == 0)) && nulB L x) := by simp [nulB]
    rw [e2, Bool.and_eq_true, Bool.and_eq_true, decide_eq_true_iff, beq_iff_eq] at h
    rw [List.cons_append, aheadGo, List.cons_append, ih h.2, if_neg]
    unfold shOf
    rw [if_neg (by omega), h.1.2]
    decide
theorem ahead_all {L : List Int} {x : List Int} (h : nulB L x = true) : aheadGo L x = x := by
  have := ahead_pre (L := L) x [] h
  rw [List.append_nil] at this
  rw [this]
  simp [aheadGo]
theorem ahead_stop {L : List Int} (x y : List Int) (s : Int) (h : nulB L x = true) (hs : 0 < shOf L s) : aheadGo L (x ++ s :: y) = x ++ [s] := by
  rw [ahead_pre _ _ h, aheadGo, if_pos hs]
theorem row_ok {L : List Int} (hL : LensOk L) (r : List Int) : okB L r = true ↔ shRow L r ≠ -1 := by
  constructor
  · intro h; exact (shGo_sum hL r 0 (by omega) h).1
  · intro h
    unfold okB
    refine List.all_eq_true.2 fun s hs => ?_
    have := shGo_each r 0 h s hs
    unfold shOf at this
    by_cases e : s < 0
    · rw [decide_eq_true e]; rfl
    · rw [if_neg e] at this
      rw [decide_eq_false e, bne_iff_ne.2 this]; rfl
end Go.Proofs.Ytlkijnglpllcdaa.Fx
