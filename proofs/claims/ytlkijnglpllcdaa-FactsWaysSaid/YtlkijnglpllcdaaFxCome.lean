/-
  The symbols that one comes to; a set of numbers as a map's datum; how much is left to be met.
-/
import Derived.Test.YtlkijnglpllcdaaFxSteps
import Derived.Maps.OwnSet
namespace Go.Proofs.Ytlkijnglpllcdaa.Fx
open Go.RowKit
set_option maxRecDepth 100000

/-- One comes to a symbol from some. -/
inductive Come (S : Nat → List Int) (l : List Int) : Int → Prop
  | base (x : Int) : x ∈ l → Come S l x
  | step (a : Nat) (y : Int) : Come S l (a : Int) → y ∈ S a → Come S l y

theorem key_int (x : Int) : WideAt.IsKeyLit (.int .i64 x) := trivial
/-- Numbers as a set. -/
def setD (M : List Int) : DataW Unit := M.foldl (fun D x => D.put (.int .i64 x) (.agg [])) (.map [])
theorem setD_snoc (M : List Int) (x : Int) : setD (M ++ [x]) = (setD M).put (.int .i64 x) (.agg []) := by simp [setD]
theorem setD_tidy_from (M : List Int) : ∀ (D : DataW Unit), Maps.Tidy D → Maps.Tidy (M.foldl (fun D x => D.put (.int .i64 x) (.agg [])) D) := by
  induction M with
  | nil => exact fun D h => h
  | cons x r ih => exact fun D h => ih _ (h.put (key_int x) _)
theorem setD_tidy (M : List Int) : Maps.Tidy (setD M) := setD_tidy_from M _ Maps.tidy_empty
theorem setD_has_from (x : Int) (M : List Int) : ∀ (D : DataW Unit), Maps.Tidy D → Maps.has (M.foldl (fun D x => D.put (.int .i64 x) (.agg [])) D) (.int .i64 x) = (Maps.has D (.int .i64 x) || decide (x ∈ M)) := by
  induction M with
  | nil => intro D _; simp
  | cons y r ih =>
    intro D h
    rw [List.foldl_cons, ih _ (h.put (key_int y) _)]
    by_cases e : x = y
    · subst e
      rw [Maps.has_put_same h.isMap (key_int x)]
      simp
    · rw [Maps.has_put_other (fun e2 => e (by injection e2))]
      simp [e]
theorem setD_has (x : Int) (M : List Int) : Maps.has (setD M) (.int .i64 x) = decide (x ∈ M) := by
  rw [setD, setD_has_from x M _ Maps.tidy_empty]
  simp [Maps.has]

/-- What is left to be met, by weight. -/
def leftD (S : Nat → List Int) : Nat → DataW Unit → Nat
  | 0, _ => 0
  | n + 1, D => leftD S n D + if Maps.has D (.int .i64 (n : Int)) then 0 else (S n).length
theorem leftD_put (S : Nat → List Int) (D : DataW Unit) (hD : Maps.Tidy D) (a : Nat) (h : Maps.has D (.int .i64 (a : Int)) = false) : ∀ n, leftD S n (D.put (.int .i64 (a : Int)) (.agg [])) + (if a < n then (S a).length else 0) = leftD S n D
  | 0 => by simp [leftD]
  | n + 1 => by
    have ih := leftD_put S D hD a h n
    rw [leftD, leftD]
    by_cases e : n = a
    · subst e
      rw [if_neg (Nat.lt_irrefl _)] at ih
      rw [Maps.has_put_same hD.isMap (key_int _), h, if_pos rfl, if_pos (Nat.lt_succ_self _), if_neg Bool.false_ne_true]
      omega
    · have e2 : ¬ (n : Int) = (a : Int) := by omega
      rw [Maps.has_put_other (fun e3 => e2 (by injection e3))]
      generalize (if Maps.has D (.int .i64 (n : Int)) = true then 0 else (S n).length) = z
      by_cases e3 : a < n
      · rw [if_pos e3] at ih
        rw [if_pos (by omega)]
        omega
      · rw [if_neg e3] at ih
        rw [if_neg (by omega)]
        omega
theorem leftD_neg (S : Nat → List Int) (D : DataW Unit) (x : Int) (h : x < 0) : ∀ n, leftD S n (D.put (.int .i64 x) (.agg [])) = leftD S n D
  | 0 => rfl
  | n + 1 => by
    rw [leftD, leftD, leftD_neg S D x h n, Maps.has_put_other (fun e => by injection e with _ e; omega)]
/-- The datum of a map, of the world. -/
noncomputable def mapD (W : World) (b : Nat) : DataW Unit :=
  match W.heap[b]? with
  | some (.map es _) => .map ((es.toList.map (Go.WideElems.rg Try.prog 3 unitElem)).foldr DataW.insert [])
  | _ => .map []
theorem mapD_is {W : World} {b n : Nat} {D : DataW Unit} (h : W.ownsMap Try.prog 3 unitElem b n D) : mapD W b = D := by
  obtain ⟨es, ck, h1, _, _, h4⟩ := h
  unfold mapD
  rw [h1, h4]
def lenV : Value → Nat
  | .slice _ n _ => n
  | _ => 0

/-- Of an own row the last is taken off. -/
theorem own_pop {W : World} {base g c t : Nat} {e : TypeId} {xs : List Value} {z : Value} (h : W.ownsRow base e 1 (.slice (some ⟨g, 0, none⟩) (t + 1) c) (t + 1) (xs ++ [z])) : W.ownsRow base e 1 (.slice (some ⟨g, 0, none⟩) t c) t xs := by
  have hl : xs.length = t := by have := h.1; simp at this; omega
  refine ⟨by rw [hl]; omega, ?_⟩
  rcases h.2 with ⟨h2, _⟩ | ⟨g2, cp, cur, h2, h3, h4, h5, h6, h7, h8⟩
  · injection h2 with h2; cases h2
  · injection h2 with e1 _ e3
    injection e1 with e1
    injection e1 with e1
    subst e1
    subst e3
    refine .inr ⟨g, c, cur, rfl, h3, h4, by omega, h6, h7, ?_⟩
    have := congrArg (List.take t) h8
    rw [List.take_take, List.take_left' hl] at this
    rw [Nat.mul_one] at this ⊢
    rwa [Nat.min_eq_left (Nat.le_succ t)] at this
end Go.Proofs.Ytlkijnglpllcdaa.Fx
