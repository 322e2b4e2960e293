/-
  Layer 14: replays, by plain words; append of a row of numbers in a region of fixed order.
-/
import Derived.Test.YtdknlifpoihnmaaTrO
namespace Go.Proofs.Ytdknlifpoihnmaa.Tr
open Go.RowKit
open Gn (Asks)
open Fx (IntsAt StrsAt Prd PG PrdsAt PgAt PgBox run_append_ints)
set_option maxRecDepth 100000
set_option linter.unusedSimpArgs false
set_option linter.unusedVariables false

/-- How many terminals come ahead. -/
def negs : List Int → Nat
  | [] => 0
  | x :: r => if x < 0 then negs r + 1 else 0
theorem negs_le : ∀ l : List Int, negs l ≤ l.length
  | [] => Nat.le_refl _
  | x :: r => by
    rw [negs]
    have := negs_le r
    split
    · rw [List.length_cons]; omega
    · omega
theorem negs_at : ∀ (l : List Int) (j : Nat) (h : j < l.length), j < negs l → l[j] < 0
  | [], j, h, _ => absurd h (by simp)
  | x :: r, j, h, hj => by
    rw [negs] at hj
    split at hj
    · rename_i hx
      cases j with
      | zero => exact hx
      | succ j => exact negs_at r j (by simpa using h) (by omega)
    · omega
theorem negs_end : ∀ (l : List Int) (h : negs l < l.length), ¬ l[negs l] < 0
  | [], h => absurd h (by simp)
  | x :: r, h => by
    by_cases hx : x < 0
    · have e : negs (x :: r) = negs r + 1 := by rw [negs, if_pos hx]
      have h' : negs r < r.length := by rw [e] at h; simpa using h
      simp only [e, List.getElem_cons_succ]
      exact negs_end r h'
    · have e : negs (x :: r) = 0 := by rw [negs, if_neg hx]
      simp only [e, List.getElem_cons_zero]
      exact hx
/-- What one production makes of the symbols; a replay. -/
def stepR (g : PG) (now : List Int) (n : Int) : Except Nat (List Int) :=
  if n < 0 ∨ (g.prods.length : Int) ≤ n then .error 10 else
  match g.prods[n.toNat]? with
  | none => .error 10
  | some p =>
    match now[negs now]? with
    | none => .error 16
    | some x => if x ≠ p.left then .error 7 else if 65537 < now.length + p.right.length then .error 6 else .ok (now.take (negs now) ++ p.right ++ now.drop (negs now + 1))
def playR (g : PG) (now : List Int) : List Int → Except Nat (List Int)
  | [] => .ok now
  | n :: r => match stepR g now n with
    | .error c => .error c
    | .ok m => playR g m r
def replayR (g : PG) (s : Int) (l : List Int) : Except Nat (List Int) :=
  if s < -(g.terms.length : Int) ∨ (g.names.length : Int) ≤ s then .error 1 else playR g [s] l
theorem play_at (g : PG) (now l : List Int) (k : Nat) (h : k < l.length) : playR g now (l.drop k) = match stepR g now l[k] with
    | .error c => .error c
    | .ok m => playR g m (l.drop (k + 1)) := by
  rw [List.drop_eq_getElem_cons h, playR]
theorem step_len {g : PG} {now m : List Int} {n : Int} (h : stepR g now n = .ok m) : m.length ≤ 65536 := by
  unfold stepR at h
  split at h
  · cases h
  split at h
  · cases h
  split at h
  · cases h
  · rename_i x hx
    split at h
    · cases h
    split at h
    · cases h
    · injection h with h
      subst h
      have h1 := negs_le now
      have h2 : negs now < now.length := by
        rcases Nat.lt_or_ge (negs now) now.length with h3 | h3
        · exact h3
        · rw [List.getElem?_eq_none h3] at hx; cases hx
      simp
      omega
/-- What a replay hands out. -/
def Played (lo : Nat) (R : Except Nat (List Int)) (e : Ending) (w' : World) : Prop :=
  match R with
  | .error c => e = .returned (.tuple #[.slice none 0 0, .int .i64 c])
  | .ok m => ∃ v, e = .returned (.tuple #[v, .int .i64 0]) ∧ IntsAt (fun r => lo ≤ r) w' m v

theorem wpList_append_ints {ops : Array Oper} {rest : List Oper} {o : Oper} {a : Act} {Q : Exit → Act → World → Prop} (w : World) (hgd : o.guard = none) (s x : Operand)
    (ho : o.op = .call { callee := .builtin .append, args := #[s, x], argTypes := #[22, 22] })
    (base : Nat) (v : Value) (n : Nat) (xs : List Value) (hs : a.eval s = v) (hown : w.ownsRow base 3 1 v n xs) (P : Nat → Prop) (l : List Int) (u : Value) (hx : a.eval x = u) (hi : IntsAt P w l u) (hm : n + l.length ≤ 8796093022208) (hb : base ≤ w.heap.size)
    (h : ∀ v' w', w'.ownsRow base 3 1 v' (n + l.length) (xs ++ l.map (Value.int .i64)) → w.grownBy w' v.ownBlock → (v'.ownBlock = v.ownBlock ∨ v'.ownBlock = some w.heap.size) → wpList Try.prog ops Q rest (a.put o.dst v') w') : wpList Try.prog ops Q (o :: rest) a w := by
  refine wpList_plain hgd fun K hK => ?_
  obtain ⟨v', w', hr, h2, h3, h4⟩ := run_append_ints o.type w base v n xs hown P l u hi hm hb
  unfold Oper.wp execOp
  simp only [ho, resolve, invoke, builtin, Sem.run_bind, Sem.run_pure, Result.andThen_ok, List.map_toArray, List.map_cons, List.map_nil, hs, hx, hr]
  exact hK _ _ (h v' w' h2 h3 h4)
/-- A piece of a row. -/
theorem ints_head {P : Nat → Prop} {W : World} {l : List Int} {A : Option Addr} {len cap : Nat} (h : IntsAt P W l (.slice A len cap)) (k : Nat) (hk : k ≤ l.length) : IntsAt P W (l.take k) (.slice A k cap) := by
  obtain ⟨A', c', b, e, h2, h3, h4⟩ := h
  injection e with e1 e2 e3
  subst e1
  subst e3
  have e : (l.take k).length = k := by simp [hk]
  refine ⟨A, cap, b, by rw [e], by omega, fun h0 => h3 (by omega), fun i hi => ?_⟩
  rw [List.getElem_take]
  exact h4 i (by omega)
end Go.Proofs.Ytdknlifpoihnmaa.Tr
