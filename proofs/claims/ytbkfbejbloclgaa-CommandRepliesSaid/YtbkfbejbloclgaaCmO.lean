/-
  Layer 21: append of texts onto an empty row; what the laws' copy of a command leaves.
-/
import Derived.Test.YtbkfbejbloclgaaCmL
import Derived.Test.YtbkfbejbloclgaaCmF
import Derived.Test.YtbkfbejbloclgaaCmI
import Derived.Maps.AppendAt
namespace Go.Proofs.Ytbkfbejbloclgaa.Cm
open Go.RowKit
open Oct (pb bs Strs strV)
open Lx (goodB)
open Gn (Asks)
set_option maxRecDepth 100000
set_option linter.unusedSimpArgs false
set_option linter.unusedVariables false
theorem run_append_word (t : TypeId) (w : World) (base : Nat) (v : Value) (n : Nat) (xs : List Value) (hown : w.ownsRow base 9 1 v n xs) (a : Option Addr) (m cap : Nat) (l : List ByteArray) (h : Strs w a m l) (hm : n + m ≤ 4398046511104) (hb : base ≤ w.heap.size) :
    ∃ v' w', (Builtin.append_ #[22, 22] t #[v, .slice a m cap]).run Try.prog w = .ok v' w' ∧ w'.ownsRow base 9 1 v' (n + m) (xs ++ l.map Value.string) ∧ w.grownBy w' v.ownBlock ∧ (v'.ownBlock = v.ownBlock ∨ v'.ownBlock = some w.heap.size) := by
  obtain ⟨i0, hi0, hz0, hz1, hz2⟩ := info_parts Oct.strinfo
  have hl := h.1
  rcases Nat.eq_zero_or_pos m with h0 | h0
  · subst h0
    have e := List.eq_nil_of_length_eq_zero hl
    subst e
    cases a with
    | none =>
      refine ⟨v, w, ?_, by simpa using hown, ⟨rfl, rfl, rfl, Nat.le_refl _, fun _ _ _ => rfl⟩, .inl rfl⟩
      rcases hown.2 with ⟨rfl, rfl⟩ | ⟨g, cap, cur, rfl, _, _, hnc, _⟩
      · simp [Builtin.append_, run_underlying Try.underlying22, sizeOf, typeInfo, hi0, Builtin.lenOf, Builtin.firstCells]
      · simp [Builtin.append_, run_underlying Try.underlying22, sizeOf, typeInfo, hi0, Builtin.lenOf, Builtin.firstCells, hnc, storeCells]
    | some ad =>
      obtain ⟨v', w', h1, h2, h5, _, h6⟩ := run_append_own_at (P := Try.prog) w base 22 t 9 i0 (.string ByteArray.empty) 1 16 Try.underlying22 hi0 hz0 hz1 hz2 rfl (by decide) v n xs hown ad 0 cap [] (by simp) (fun j u hj => by simp at hj) (by simp) (by unfold maxLen; omega) (by omega) hb
      exact ⟨v', w', h1, h2, h5, h6⟩
  · obtain ⟨b, off, rfl, hbb, hc⟩ := h.2 h0
    obtain ⟨v', w', h1, h2, h5, _, h6⟩ := run_append_own_at (P := Try.prog) w base 22 t 9 i0 (.string ByteArray.empty) 1 16 Try.underlying22 hi0 hz0 hz1 hz2 rfl (by decide) v n xs hown ⟨b, off, none⟩ m cap (l.map Value.string) (by simp [hl]) (fun j u hj => by
      obtain ⟨h0, hj2⟩ : ∃ h0 : j < l.length, Value.string l[j] = u := by
        rw [List.getElem?_map] at hj
        rcases Nat.lt_or_ge j l.length with h0 | h0
        · rw [List.getElem?_eq_getElem h0] at hj; exact ⟨h0, by injection hj⟩
        · rw [List.getElem?_eq_none h0] at hj; cases hj
      rw [addr_add, hc j (by omega), ← hj2, List.getD_eq_getElem?_getD, List.getElem?_eq_getElem h0]
      rfl) (by simp [Value.oneCell']) (by unfold maxLen; omega) (by omega) hb
    exact ⟨v', w', h1, h2, h5, h6⟩
theorem step_append_word {ops : Array Oper} {o : Oper} {a : Act} {K : Act → World → Prop} {Q : Exit → Act → World → Prop} {E : Prop} (w : World) (hgd : o.guard = none) (s x : Operand)
    (ho : o.op = .call { callee := .builtin .append, args := #[s, x], argTypes := #[22, 22] })
    (base : Nat) (v : Value) (n : Nat) (xs : List Value) (hs : a.eval s = v) (hown : w.ownsRow base 9 1 v n xs) (ad : Option Addr) (m cap : Nat) (l : List ByteArray) (hx : a.eval x = .slice ad m cap) (hi : Strs w ad m l) (hm : n + m ≤ 4398046511104) (hb : base ≤ w.heap.size)
    (h : ∀ v' w', w'.ownsRow base 9 1 v' (n + m) (xs ++ l.map Value.string) → w.grownBy w' v.ownBlock → K (a.put o.dst v') w') :
    if Region.wanted o (yielded ops a.tmps) = true then Oper.wp Try.prog o a w K Q else E := by
  have hw : Region.wanted o (yielded ops a.tmps) = true := by simp [Region.wanted, hgd]
  rw [if_pos hw]
  obtain ⟨v', w', hr, h2, h3, h4⟩ := run_append_word o.type w base v n xs hown ad m cap l hi hm hb
  unfold Oper.wp execOp
  simp only [ho, resolve, invoke, builtin, Sem.run_bind, Sem.run_pure, Result.andThen_ok, List.map_toArray, List.map_cons, List.map_nil, hs, hx, hr]
  exact h v' w' h2 h3
theorem strs_own2 {w : World} {base n cap : Nat} {A : Option Addr} {ss : List ByteArray} (h : w.ownsRow base 9 1 (.slice A n cap) n (ss.map Value.string)) : Strs w A n ss := by
  have h2 : ss.map Value.string = (ss.map bs).map strV := by
    rw [List.map_map]
    exact List.map_congr_left fun x _ => by cases x; rfl
  rw [h2] at h
  have := strs_own h
  rwa [map_mkS] at this
theorem own_empty {w : World} {base g : Nat} {T : TypeId} (h : w.heap[g]? = some (.cells #[] T (0, 0))) (hb : base ≤ g) : w.ownsRow base T 1 (.slice (some ⟨g, 0, none⟩) 0 0) 0 [] :=
  ⟨rfl, .inr ⟨g, 0, #[], rfl, hb, h, Nat.le_refl _, Nat.zero_le _, rfl, rfl⟩⟩
/-- What the copy of a command leaves. -/
def Dup (V wx : World) (q : Nat) (A5 : Option Addr) (c5 n : Nat) (kind : Int) (who nm oth txt : ByteArray) (word : List ByteArray) (n0 n1 n2 n3 : Int) : Prop :=
  Below V.heap.size V wx ∧ V.heap.size ≤ q ∧ wx.heap[q]? = some (.cells #[.int .i64 kind, .string who, .string nm, .string oth, .string txt, .slice A5 n c5, .int .i64 n0, .int .i64 n1, .int .i64 n2, .int .i64 n3] 28 (0, 0)) ∧ Strs wx A5 n word
/-- What stands between the steps: the copied row. -/
structure DupS (V w : World) (v : Value) (n : Nat) (word : List ByteArray) : Prop where
  bel : Below V.heap.size V w
  own : w.ownsRow V.heap.size 9 1 v n (word.map Value.string)
theorem grown_below {V w w' : World} {o : Option Nat} (h : w.grownBy w' o) (b : Below V.heap.size V w) (ho : ∀ k, o = some k → V.heap.size ≤ k) : Below V.heap.size V w' := by
  obtain ⟨h1, h2, h3, h4, h5⟩ := h
  refine ⟨h1.trans b.os, h2.trans b.tape, h3.trans b.output, Nat.le_trans b.size h4, fun k hk => ?_⟩
  exact (h5 k (Nat.lt_of_lt_of_le hk b.size) (fun e => by have := ho k e.symm; omega)).trans (b.block k hk)
section
variable {V w : World} {n : Nat} {word : List ByteArray} {kind : Int} {who nm oth txt : ByteArray} {n0 n1 n2 n3 : Int} {A5 : Option Addr} {c5 : Nat}
theorem DupS.late (h : DupS V w (.slice A5 n c5) n word) : Dup V (w.alloc (.cells #[.int .i64 kind, .string who, .string nm, .string oth, .string txt, .slice A5 n c5, .int .i64 n0, .int .i64 n1, .int .i64 n2, .int .i64 n3] 28)) w.heap.size A5 c5 n kind who nm oth txt word n0 n1 n2 n3 :=
  ⟨h.bel.alloc h.bel.size _, h.bel.size, heap_alloc_new _ _, Strs.under (strs_own2 h.own) ((Below.refl _ _).alloc (Nat.le_refl _) _)⟩
theorem DupS.early (h : DupS V w (.slice A5 n c5) n word) {q : Nat} (hq : V.heap.size ≤ q) {z0 z1 z2 z3 z4 z5 z6 z7 z8 z9 : Value} (hx : w.heap[q]? = some (.cells #[z0, z1, z2, z3, z4, z5, z6, z7, z8, z9] 28 (0, 0))) :
    Dup V ((((((((((w.setCell ⟨q, 0, none⟩ (.int .i64 kind)).setCell ⟨q, 1, none⟩ (.string who)).setCell ⟨q, 2, none⟩ (.string nm)).setCell ⟨q, 3, none⟩ (.string oth)).setCell ⟨q, 4, none⟩ (.string txt)).setCell ⟨q, 5, none⟩ (.slice A5 n c5)).setCell ⟨q, 6, none⟩ (.int .i64 n0)).setCell ⟨q, 7, none⟩ (.int .i64 n1)).setCell ⟨q, 8, none⟩ (.int .i64 n2)).setCell ⟨q, 9, none⟩ (.int .i64 n3)) q A5 c5 n kind who nm oth txt word n0 n1 n2 n3 :=
  ⟨below10 hq h.bel _ _ _ _ _ _ _ _ _ _, hq, set10 hx _ _ _ _ _ _ _ _ _ _, strs_own2 (own_far h.own hx (by decide) fun r hr => cell10 hr _ _ _ _ _ _ _ _ _ _)⟩
end
end Go.Proofs.Ytbkfbejbloclgaa.Cm
