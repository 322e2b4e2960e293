/-
  Own rows of numbers: seen in their blocks alone; append of numbers onto one.
-/
import Derived.Test.YtdknlifpoihnmaaFxRow
import Derived.Deep.OwnRows
import Derived.Deep.RegionHeld3
namespace Go.Proofs.Ytdknlifpoihnmaa.Fx
open Go.RowKit
set_option maxRecDepth 100000

theorem iinfo : (Try.prog.info? 3).map (fun i => (i.zero, i.size, i.bytes)) = some (some (.int .i64 0), 1, 8) := by kernel_rfl
/-- An own row is seen in its block alone. -/
theorem own_of_block {W W' : World} {base n : Nat} {e : TypeId} {v : Value} {xs : List Value} (h : W.ownsRow base e 1 v n xs) (hb : ∀ g, v.ownBlock = some g → W'.heap[g]? = W.heap[g]?) : W'.ownsRow base e 1 v n xs := by
  refine ⟨h.1, ?_⟩
  rcases h.2 with h2 | ⟨g, cp, cur, h2, h3, h4, h5⟩
  · exact .inl h2
  · exact .inr ⟨g, cp, cur, h2, h3, by rw [hb g (by rw [h2]; rfl)]; exact h4, h5⟩
theorem own_base {W : World} {base n g : Nat} {e : TypeId} {v : Value} {xs : List Value} (h : W.ownsRow base e 1 v n xs) (hg : v.ownBlock = some g) : base ≤ g ∧ g < W.heap.size := by
  rcases h.2 with ⟨h2, _⟩ | ⟨g2, cp, cur, h2, h3, h4, h5⟩
  · rw [h2] at hg; cases hg
  · rw [h2] at hg
    injection hg with hg
    subst hg
    exact ⟨h3, Gn.heap_lt h4⟩

/-- append of a row of numbers, empty or not, onto an own row. -/
theorem run_append_ints (t : TypeId) (w : World) (base : Nat) (v : Value) (n : Nat) (xs : List Value) (hown : w.ownsRow base 3 1 v n xs) (P : Nat → Prop) (l : List Int) (u : Value) (h : IntsAt P w l u) (hm : n + l.length ≤ 8796093022208) (hb : base ≤ w.heap.size) :
    ∃ v' w', (Builtin.append_ #[22, 22] t #[v, u]).run Try.prog w = .ok v' w' ∧ w'.ownsRow base 3 1 v' (n + l.length) (xs ++ l.map (Value.int .i64)) ∧ w.grownBy w' v.ownBlock ∧ (v'.ownBlock = v.ownBlock ∨ v'.ownBlock = some w.heap.size) := by
  obtain ⟨i0, hi0, hz0, hz1, hz2⟩ := info_parts iinfo
  obtain ⟨A, cap, b, rfl, hcap, h3, h4⟩ := h
  cases A with
  | none =>
    have hl : l.length = 0 := by
      rcases Nat.eq_zero_or_pos l.length with h0 | h0
      · exact h0
      · obtain ⟨h5, _⟩ := h3 h0; cases h5
    have e := List.eq_nil_of_length_eq_zero hl
    subst e
    refine ⟨v, w, ?_, by simpa using hown, ⟨rfl, rfl, rfl, Nat.le_refl _, fun _ _ _ => rfl⟩, .inl rfl⟩
    rcases hown.2 with ⟨rfl, rfl⟩ | ⟨g, cap, cur, rfl, _, _, hnc, _⟩
    · simp [Builtin.append_, run_underlying Try.underlying22, sizeOf, typeInfo, hi0, Builtin.lenOf, Builtin.firstCells]
    · simp [Builtin.append_, run_underlying Try.underlying22, sizeOf, typeInfo, hi0, Builtin.lenOf, Builtin.firstCells, hnc, storeCells]
  | some ad =>
    obtain ⟨v', w', h1, h2, h5, _, h6⟩ := run_append_own_at (P := Try.prog) w base 22 t 3 i0 (.int .i64 0) 1 8 Try.underlying22 hi0 hz0 hz1 hz2 rfl (by decide) v n xs hown ad l.length cap (l.map (Value.int .i64)) (by simp) (fun j u hj => by
      obtain ⟨h0, hj2⟩ : ∃ h0 : j < l.length, Value.int .i64 l[j] = u := by
        rw [List.getElem?_map] at hj
        rcases Nat.lt_or_ge j l.length with h0 | h0
        · rw [List.getElem?_eq_getElem h0] at hj; exact ⟨h0, by injection hj⟩
        · rw [List.getElem?_eq_none h0] at hj; cases hj
      obtain ⟨e1, _⟩ := h3 (by omega)
      injection e1 with e1
      subst e1
      rw [Gn.add_row, h4 j h0, hj2]) (by simp [Value.oneCell']) (by unfold maxLen; omega) (by omega) hb
    exact ⟨v', w', h1, h2, h5, h6⟩

theorem step_append_ints {ops : Array Oper} {o : Oper} {a : Act} {K : Act → World → Prop} {Q : Exit → Act → World → Prop} {E : Prop} (w : World) (hgd : o.guard = none) (s x : Operand)
    (ho : o.op = .call { callee := .builtin .append, args := #[s, x], argTypes := #[22, 22] })
    (base : Nat) (v : Value) (n : Nat) (xs : List Value) (hs : a.eval s = v) (hown : w.ownsRow base 3 1 v n xs) (P : Nat → Prop) (l : List Int) (u : Value) (hx : a.eval x = u) (hi : IntsAt P w l u) (hm : n + l.length ≤ 8796093022208) (hb : base ≤ w.heap.size)
    (h : ∀ v' w', w'.ownsRow base 3 1 v' (n + l.length) (xs ++ l.map (Value.int .i64)) → w.grownBy w' v.ownBlock → (v'.ownBlock = v.ownBlock ∨ v'.ownBlock = some w.heap.size) → K (a.put o.dst v') w') :
    if Region.wanted o (yielded ops a.tmps) = true then Oper.wp Try.prog o a w K Q else E := by
  have hw : Region.wanted o (yielded ops a.tmps) = true := by simp [Region.wanted, hgd]
  rw [if_pos hw]
  obtain ⟨v', w', hr, h2, h3, h4⟩ := run_append_ints o.type w base v n xs hown P l u hi hm hb
  unfold Oper.wp execOp
  simp only [ho, resolve, invoke, builtin, Sem.run_bind, Sem.run_pure, Result.andThen_ok, List.map_toArray, List.map_cons, List.map_nil, hs, hx, hr]
  exact h v' w' h2 h3 h4

end Go.Proofs.Ytdknlifpoihnmaa.Fx
