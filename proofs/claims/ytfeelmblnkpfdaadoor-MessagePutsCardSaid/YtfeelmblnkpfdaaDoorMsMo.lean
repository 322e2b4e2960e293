/-
  Layer 23: append of numbers onto an empty row, and onto any row of the call's own.
-/
import Derived.Test.YtfeelmblnkpfdaaDoorMsRe
import Derived.Test.YtfeelmblnkpfdaaDoorMsRi
import Derived.Maps.AppendAt
namespace Go.Proofs.YtfeelmblnkpfdaaDoor.Ms
open Go.RowKit
set_option maxRecDepth 100000
set_option linter.unusedSimpArgs false
set_option linter.unusedVariables false
theorem run_append_ints (t : TypeId) (w : World) (base : Nat) (v : Value) (n : Nat) (xs : List Value) (hown : w.ownsRow base 3 1 v n xs) (a : Option Addr) (m cap : Nat) (l : List Int) (h : Ints w a m l) (hm : n + m ≤ 4398046511104) (hb : base ≤ w.heap.size) :
    ∃ v' w', (Builtin.append_ #[23, 23] t #[v, .slice a m cap]).run Tryd.prog w = .ok v' w' ∧ w'.ownsRow base 3 1 v' (n + m) (xs ++ l.map (Value.int .i64)) ∧ w.grownBy w' v.ownBlock ∧ (v'.ownBlock = v.ownBlock ∨ v'.ownBlock = some w.heap.size) := by
  obtain ⟨i0, hi0, hz0, hz1, hz2⟩ := info_split int_info
  have hl := h.1
  rcases Nat.eq_zero_or_pos m with h0 | h0
  · subst h0
    have e := List.eq_nil_of_length_eq_zero hl
    subst e
    cases a with
    | none =>
      refine ⟨v, w, ?_, by simpa using hown, ⟨rfl, rfl, rfl, Nat.le_refl _, fun _ _ _ => rfl⟩, .inl rfl⟩
      rcases hown.2 with ⟨rfl, rfl⟩ | ⟨g, cap, cur, rfl, _, _, hnc, _⟩
      · simp [Builtin.append_, run_underlying Tryd.underlying23, sizeOf, typeInfo, hi0, Builtin.lenOf, Builtin.firstCells]
      · simp [Builtin.append_, run_underlying Tryd.underlying23, sizeOf, typeInfo, hi0, Builtin.lenOf, Builtin.firstCells, hnc, storeCells]
    | some ad =>
      obtain ⟨v', w', h1, h2, h5, _, h6⟩ := run_append_own_at (P := Tryd.prog) w base 23 t 3 i0 (.int .i64 0) 1 8 Tryd.underlying23 hi0 hz0 hz1 hz2 rfl (by decide) v n xs hown ad 0 cap [] (by simp) (fun j u hj => by simp at hj) (by simp) (by unfold maxLen; omega) (by omega) hb
      exact ⟨v', w', h1, h2, h5, h6⟩
  · obtain ⟨b, off, rfl, hbb, hc⟩ := h.2 h0
    obtain ⟨v', w', h1, h2, h5, _, h6⟩ := run_append_own_at (P := Tryd.prog) w base 23 t 3 i0 (.int .i64 0) 1 8 Tryd.underlying23 hi0 hz0 hz1 hz2 rfl (by decide) v n xs hown ⟨b, off, none⟩ m cap (l.map (Value.int .i64)) (by simp [hl]) (fun j u hj => by
      obtain ⟨h0, hj2⟩ : ∃ h0 : j < l.length, Value.int .i64 l[j] = u := by
        rw [List.getElem?_map] at hj
        rcases Nat.lt_or_ge j l.length with h0 | h0
        · rw [List.getElem?_eq_getElem h0] at hj; exact ⟨h0, by injection hj⟩
        · rw [List.getElem?_eq_none h0] at hj; cases hj
      rw [addr_add, hc j (by omega), ← hj2, List.getD_eq_getElem?_getD, List.getElem?_eq_getElem h0]
      rfl) (by simp [Value.oneCell']) (by unfold maxLen; omega) (by omega) hb
    exact ⟨v', w', h1, h2, h5, h6⟩
theorem step_append_ints {ops : Array Oper} {o : Oper} {a : Act} {K : Act → World → Prop} {Q : Exit → Act → World → Prop} {E : Prop} (w : World) (hgd : o.guard = none) (s x : Operand)
    (ho : o.op = .call { callee := .builtin .append, args := #[s, x], argTypes := #[23, 23] })
    (base : Nat) (v : Value) (n : Nat) (xs : List Value) (hs : a.eval s = v) (hown : w.ownsRow base 3 1 v n xs) (ad : Option Addr) (m cap : Nat) (l : List Int) (hx : a.eval x = .slice ad m cap) (hi : Ints w ad m l) (hm : n + m ≤ 4398046511104) (hb : base ≤ w.heap.size)
    (h : ∀ v' w', w'.ownsRow base 3 1 v' (n + m) (xs ++ l.map (Value.int .i64)) → w.grownBy w' v.ownBlock → K (a.put o.dst v') w') :
    if Region.wanted o (yielded ops a.tmps) = true then Oper.wp Tryd.prog o a w K Q else E := by
  have hw : Region.wanted o (yielded ops a.tmps) = true := by simp [Region.wanted, hgd]
  rw [if_pos hw]
  obtain ⟨v', w', hr, h2, h3, h4⟩ := run_append_ints o.type w base v n xs hown ad m cap l hi hm hb
  unfold Oper.wp execOp
  simp only [ho, resolve, invoke, builtin, Sem.run_bind, Sem.run_pure, Result.andThen_ok, List.map_toArray, List.map_cons, List.map_nil, hs, hx, hr]
  exact h v' w' h2 h3
theorem own_empty {w : World} {base g : Nat} {T : TypeId} (h : w.heap[g]? = some (.cells #[] T (0, 0))) (hb : base ≤ g) : w.ownsRow base T 1 (.slice (some ⟨g, 0, none⟩) 0 0) 0 [] :=
  ⟨rfl, .inr ⟨g, 0, #[], rfl, hb, h, Nat.le_refl _, Nat.zero_le _, rfl, rfl⟩⟩
end Go.Proofs.YtfeelmblnkpfdaaDoor.Ms
