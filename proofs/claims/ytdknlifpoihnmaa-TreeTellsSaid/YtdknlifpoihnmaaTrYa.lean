/-
  Layer 14: a tree and its bytes, its productions, its terminals: plain mathematics.
-/
import Derived.Test.YtdknlifpoihnmaaTrH
namespace Go.Proofs.Ytdknlifpoihnmaa.Tr
open Go.RowKit
open Oct (pb gb gb_pb)
open Fx (Prd PG)
set_option maxRecDepth 100000
set_option linter.unusedSimpArgs false
set_option linter.unusedVariables false

theorem own_cells {W : World} {base n g : Nat} {e : TypeId} {v : Value} {xs : List Value} (h : W.ownsRow base e 1 v n xs) (hg : v.ownBlock = some g) : ∃ cur, W.heap[g]? = some (.cells cur e (0, 0)) := by
  rcases h.2 with ⟨e2, _⟩ | ⟨g2, cp, cur, e2, _, e3, _⟩
  · rw [e2] at hg; cases hg
  · rw [e2] at hg
    have hg : g2 = g := by injection hg
    subst hg
    exact ⟨_, e3⟩
mutual
/-- A tree's bytes. -/
def putT : Tr → List UInt8
  | .mk n l => pb n ++ putL l
def putL : List Tr → List UInt8
  | [] => []
  | a :: r => putT a ++ putL r
end
mutual
/-- Its productions, from the left. -/
def prodT : Tr → List Int
  | .mk n l => (if n < 0 then [] else [n]) ++ prodL l
def prodL : List Tr → List Int
  | [] => []
  | a :: r => prodT a ++ prodL r
end
mutual
/-- Its terminals, from the left. -/
def yieldT : Tr → List Int
  | .mk n l => if n < 0 then [-1 - n] else yieldL l
def yieldL : List Tr → List Int
  | [] => []
  | a :: r => yieldT a ++ yieldL r
end
/-- A terminal's symbol. -/
def symT (y : Int) : Int := -1 - y
theorem fits_split {g : PG} {a : Tr} {r : List Tr} {s : Int} {ss : List Int} (h : fitsL g (a :: r) (s :: ss) = true) : (rootT g a.prod).1 = s ∧ fitsT g a = true ∧ fitsL g r ss = true := by
  rw [fitsL] at h
  simp only [Bool.and_eq_true, decide_eq_true_eq] at h
  exact ⟨h.1.2.1, h.1.2.2, h.2⟩
theorem fits_nil {g : PG} {l : List Tr} (h : fitsL g l [] = true) : l = [] := by
  cases l with
  | nil => rfl
  | cons a r => rw [fitsL] at h; cases h
theorem fits_cons {g : PG} {a : Tr} {r : List Tr} {ss : List Int} (h : fitsL g (a :: r) ss = true) : ∃ s t, ss = s :: t := by
  cases ss with
  | nil => rw [fitsL] at h; cases h
  | cons s t => exact ⟨s, t, rfl⟩
theorem fits_at {g : PG} {n : Int} {l : List Tr} (h : fitsT g (.mk n l) = true) : (rootT g n).2 = true ∧ fitsL g l (sideT g n) = true := by
  rw [fitsT] at h
  simpa using h
/-- Numbers that have bytes. -/
structure Few (g : PG) : Prop where
  terms : g.terms.length ≤ 9007199254740991
  prods : g.prods.length ≤ 9007199254740991
theorem Few.num {g : PG} (hf : Few g) {n : Int} (h : (rootT g n).2 = true) : ¬ (n < -9007199254740992 ∨ 9007199254740992 < n) := by
  have := hf.terms
  have := hf.prods
  unfold rootT at h
  split at h
  · simp at h; omega
  · split at h
    · omega
    · simp at h
theorem node_put {g : PG} (hf : Few g) {n : Int} (h : (rootT g n).2 = true) {o : Option Int} (ho : suchB o (rootT g n).1 = true) (s : List UInt8) {nd : Nat} (hn : nd < 65536) : nodeR g o (pb n ++ s) nd = .ok (n, (pb n).length) := by
  unfold nodeR
  rw [gb_pb n s (hf.num h)]
  have e : wrongT g o n = 0 := by unfold wrongT; rw [if_pos h, if_pos ho]
  have e2 : ¬ (nd = 65536 ∧ (0 : Nat) ≠ 10 ∧ (0 : Nat) ≠ 7) := by omega
  simp only [e, if_true, if_neg e2]
mutual
theorem tree_put {g : PG} (hf : Few g) : ∀ (t : Tr) (f : Nat) (o : Option Int) (s : List UInt8) (nd : Nat), fitsT g t = true → suchB o (rootT g t.prod).1 = true → nd + nodesT t ≤ 65536 → deepT t ≤ f → treeR g f o (putT t ++ s) nd = .ok (t, s, nd + nodesT t)
  | .mk n l, 0, o, s, nd, h, ho, hn, hd => by rw [deepT] at hd; omega
  | .mk n l, f + 1, o, s, nd, h, ho, hn, hd => by
    obtain ⟨h1, h2⟩ := fits_at h
    rw [deepT] at hd
    rw [nodesT] at hn ⊢
    rw [treeR, putT, List.append_assoc, node_put hf h1 ho _ (by omega)]
    dsimp only
    rw [List.drop_left, kids_put hf l (sideT g n) f [] s (nd + 1) h2 (by omega) (by omega)]
    rw [wrapK, List.nil_append]
    congr 3
    omega
theorem kids_put {g : PG} (hf : Few g) : ∀ (l : List Tr) (ss : List Int) (f : Nat) (acc : List Tr) (s : List UInt8) (nd : Nat), fitsL g l ss = true → nd + nodesL l ≤ 65536 → deepL l ≤ f → kidsG (fun y => treeR g f (some y)) acc ss (putL l ++ s) nd = .ok (acc ++ l, s, nd + nodesL l)
  | [], [], f, acc, s, nd, h, hn, hd => by rw [kidsG, putL, nodesL]; simp
  | [], _ :: _, f, acc, s, nd, h, hn, hd => by rw [fitsL] at h; cases h
  | _ :: _, [], f, acc, s, nd, h, hn, hd => by rw [fitsL] at h; cases h
  | a :: r, y :: ss, f, acc, s, nd, h, hn, hd => by
    obtain ⟨h1, h2, h3⟩ := fits_split h
    rw [nodesL] at hn ⊢
    rw [deepL] at hd
    rw [kidsG, putL, List.append_assoc, tree_put hf a f (some y) (putL r ++ s) nd h2 (by rw [h1]; simp [suchB]) (by omega) (by omega)]
    dsimp only
    rw [kids_put hf r ss f (acc ++ [a]) s (nd + nodesT a) h3 (by omega) (by omega), List.append_assoc]
    congr 3
    omega
end
theorem deep_le2 : ∀ t : Tr, deepT t ≤ nodesT t := by
  intro t
  exact Tr.rec (motive_1 := fun t => deepT t ≤ nodesT t) (motive_2 := fun l => deepL l ≤ nodesL l) (fun n l ih => by rw [deepT, nodesT]; omega) (by simp [deepL, nodesL]) (fun a r h1 h2 => by rw [deepL, nodesL]; omega) t
theorem get_put {g : PG} (hf : Few g) {t : Tr} (h : fitsT g t = true) (hn : nodesT t ≤ 65536) : getT g (putT t) = .ok t := by
  have hd := deep_le2 t
  have := tree_put hf t 65537 none [] 0 h rfl (by omega) (by omega)
  rw [List.append_nil] at this
  unfold getT
  rw [this]
  rfl
end Go.Proofs.Ytdknlifpoihnmaa.Tr
