/-
  Layer 14: a tree and its bytes, its productions, its terminals: plain mathematics.
-/
import Derived.Test.YtjlppffkacimoaaTrX
import Derived.Test.YtjlppffkacimoaaTrH
namespace Go.Proofs.Ytjlppffkacimoaa.Tr
open Go.RowKit
open Oct (pb gb gb_pb)
open Fx (Prd PG)
set_option maxRecDepth 100000
set_option linter.unusedSimpArgs false
set_option linter.unusedVariables false

mutual
/-- A tree's bytes. -/
def putT : Tr → List UInt8
  | .mk n l => pb n ++ putL l
def putL : List Tr → List UInt8
  | [] => []
  | a :: r => putT a ++ putL r
end
mutual
/-- Its productions, from the left. -/
def prodT : Tr → List Int
  | .mk n l => (if n < 0 then [] else [n]) ++ prodL l
def prodL : List Tr → List Int
  | [] => []
  | a :: r => prodT a ++ prodL r
end
mutual
/-- Its terminals, from the left. -/
def yieldT : Tr → List Int
  | .mk n l => if n < 0 then [-1 - n] else yieldL l
def yieldL : List Tr → List Int
  | [] => []
  | a :: r => yieldT a ++ yieldL r
end
/-- A terminal's symbol. -/
def symT (y : Int) : Int := -1 - y
theorem fits_split {g : PG} {a : Tr} {r : List Tr} {s : Int} {ss : List Int} (h : fitsL g (a :: r) (s :: ss) = true) : (rootT g a.prod).1 = s ∧ fitsT g a = true ∧ fitsL g r ss = true := by
  rw [fitsL] at h
  simp only [Bool.and_eq_true, decide_eq_true_eq] at h
  exact ⟨h.1.2.1, h.1.2.2, h.2⟩
theorem fits_nil {g : PG} {l : List Tr} (h : fitsL g l [] = true) : l = [] := by
  cases l with
  | nil => rfl
  | cons a r => rw [fitsL] at h; cases h
theorem fits_cons {g : PG} {a : Tr} {r : List Tr} {ss : List Int} (h : fitsL g (a :: r) ss = true) : ∃ s t, ss = s :: t := by
  cases ss with
  | nil => rw [fitsL] at h; cases h
  | cons s t => exact ⟨s, t, rfl⟩
theorem fits_at {g : PG} {n : Int} {l : List Tr} (h : fitsT g (.mk n l) = true) : (rootT g n).2 = true ∧ fitsL g l (sideT g n) = true := by
  rw [fitsT] at h
  simpa using h
/-- Numbers that have bytes. -/
structure Few (g : PG) : Prop where
  terms : g.terms.length ≤ 9007199254740991
  prods : g.prods.length ≤ 9007199254740991
theorem Few.num {g : PG} (hf : Few g) {n : Int} (h : (rootT g n).2 = true) : ¬ (n < -9007199254740992 ∨ 9007199254740992 < n) := by
  have := hf.terms
  have := hf.prods
  unfold rootT at h
  split at h
  · simp at h; omega
  · split at h
    · omega
    · simp at h
theorem node_put {g : PG} (hf : Few g) {n : Int} (h : (rootT g n).2 = true) {o : Option Int} (ho : suchB o (rootT g n).1 = true) (s : List UInt8) {nd : Nat} (hn : nd < 65536) : nodeR g o (pb n ++ s) nd = .ok (n, (pb n).length) := by
  unfold nodeR
  rw [gb_pb n s (hf.num h)]
  have e : wrongT g o n = 0 := by unfold wrongT; rw [if_pos h, if_pos ho]
  have e2 : ¬ (nd = 65536 ∧ (0 : Nat) ≠ 10 ∧ (0 : Nat) ≠ 7) := by omega
  simp only [e, if_true, if_neg e2]
mutual
theorem tree_put {g : PG} (hf : Few g) : ∀ (t : Tr) (f : Nat) (o : Option Int) (s : List UInt8) (nd : Nat), fitsT g t = true → suchB o (rootT g t.prod).1 = true → nd + nodesT t ≤ 65536 → deepT t ≤ f → treeR g f o (putT t ++ s) nd = .ok (t, s, nd + nodesT t)
  | .mk n l, 0, o, s, nd, h, ho, hn, hd => by rw [deepT] at hd; omega
  | .mk n l, f + 1, o, s, nd, h, ho, hn, hd => by
    obtain ⟨h1, h2⟩ := fits_at h
    rw [deepT] at hd
    rw [nodesT] at hn ⊢
    rw [treeR, putT, List.append_assoc, node_put hf h1 ho _ (by omega)]
    dsimp only
    rw [List.drop_left, kids_put hf l (sideT g n) f [] s (nd + 1) h2 (by omega) (by omega)]
    rw [wrapK, List.nil_append]
    congr 3
    omega
theorem kids_put {g : PG} (hf : Few g) : ∀ (l : List Tr) (ss : List Int) (f : Nat) (acc : List Tr) (s : List UInt8) (nd : Nat), fitsL g l ss = true → nd + nodesL l ≤ 65536 → deepL l ≤ f → kidsG (fun y => treeR g f (some y)) acc ss (putL l ++ s) nd = .ok (acc ++ l, s, nd + nodesL l)
  | [], [], f, acc, s, nd, h, hn, hd => by rw [kidsG, putL, nodesL]; simp
  | [], _ :: _, f, acc, s, nd, h, hn, hd => by rw [fitsL] at h; cases h
  | _ :: _, [], f, acc, s, nd, h, hn, hd => by rw [fitsL] at h; cases h
  | a :: r, y :: ss, f, acc, s, nd, h, hn, hd => by
    obtain ⟨h1, h2, h3⟩ := fits_split h
    rw [nodesL] at hn ⊢
    rw [deepL] at hd
    rw [kidsG, putL, List.append_assoc, tree_put hf a f (some y) (putL r ++ s) nd h2 (by rw [h1]; simp [suchB]) (by omega) (by omega)]
    dsimp only
    rw [kids_put hf r ss f (acc ++ [a]) s (nd + nodesT a) h3 (by omega) (by omega), List.append_assoc]
    congr 3
    omega
end
theorem deep_le2 : ∀ t : Tr, deepT t ≤ nodesT t := by
  intro t
  exact Tr.rec (motive_1 := fun t => deepT t ≤ nodesT t) (motive_2 := fun l => deepL l ≤ nodesL l) (fun n l ih => by rw [deepT, nodesT]; omega) (by simp [deepL, nodesL]) (fun a r h1 h2 => by rw [deepL, nodesL]; omega) t
theorem get_put {g : PG} (hf : Few g) {t : Tr} (h : fitsT g t = true) (hn : nodesT t ≤ 65536) : getT g (putT t) = .ok t := by
  have hd := deep_le2 t
  have := tree_put hf t 65537 none [] 0 h rfl (by omega) (by omega)
  rw [List.append_nil] at this
  unfold getT
  rw [this]
  rfl
/-- The left sides are nonterminals. -/
def Lefts (g : PG) : Prop := ∀ p ∈ g.prods, 0 ≤ p.left
theorem step_root {g : PG} {A B : List Int} {n : Nat} (hA : ∀ x ∈ A, x < 0) (hn : n < g.prods.length) (hl : 0 ≤ g.prods[n].left) (hb : A.length + 1 + B.length + g.prods[n].right.length ≤ 65537) :
    stepR g (A ++ g.prods[n].left :: B) n = .ok (A ++ (g.prods[n].right ++ B)) := by
  have e : negs (A ++ g.prods[n].left :: B) = A.length := by
    rw [negs_app A _ hA, negs, if_neg (by omega)]
    omega
  unfold stepR
  rw [if_neg (by omega), Int.toNat_natCast, List.getElem?_eq_getElem hn]
  have e2 : (A ++ g.prods[n].left :: B)[A.length]? = some g.prods[n].left := by simp
  have e3 : (A ++ g.prods[n].left :: B).length = A.length + 1 + B.length := by simp; omega
  simp only [e, e2, e3]
  rw [if_neg (by simp), if_neg (by omega)]
  congr 1
  rw [List.take_left, ← List.drop_drop, List.drop_left, List.append_assoc]
  rfl
mutual
theorem yield_neg {g : PG} : ∀ t : Tr, fitsT g t = true → ∀ x ∈ (yieldT t).map symT, x < 0
  | .mk n l, h => by
    obtain ⟨h1, h2⟩ := fits_at h
    rw [yieldT]
    split
    · intro x hx
      simp [symT] at hx
      omega
    · exact yields_neg l _ h2
theorem yields_neg {g : PG} : ∀ (l : List Tr) (ss : List Int), fitsL g l ss = true → ∀ x ∈ (yieldL l).map symT, x < 0
  | [], _, _ => by simp [yieldL]
  | a :: r, [], h => by rw [fitsL] at h; cases h
  | a :: r, s :: ss, h => by
    obtain ⟨_, h2, h3⟩ := fits_split h
    rw [yieldL, List.map_append]
    intro x hx
    rcases List.mem_append.1 hx with hx | hx
    · exact yield_neg a h2 x hx
    · exact yields_neg r ss h3 x hx
end
mutual
theorem count_tree {g : PG} : ∀ t : Tr, fitsT g t = true → nodesT t = (yieldT t).length + (prodT t).length
  | .mk n l, h => by
    obtain ⟨h1, h2⟩ := fits_at h
    rw [nodesT, yieldT, prodT]
    by_cases hn : n < 0
    · have e : sideT g n = [] := by unfold sideT; rw [if_pos hn]
      rw [e] at h2
      rw [fits_nil h2, if_pos hn, if_pos hn]
      simp [nodesL, prodL]
    · rw [if_neg hn, if_neg hn, count_list l _ h2]
      simp
      omega
theorem count_list {g : PG} : ∀ (l : List Tr) (ss : List Int), fitsL g l ss = true → nodesL l = (yieldL l).length + (prodL l).length
  | [], _, _ => by simp [nodesL, yieldL, prodL]
  | a :: r, [], h => by rw [fitsL] at h; cases h
  | a :: r, s :: ss, h => by
    obtain ⟨_, h2, h3⟩ := fits_split h
    rw [nodesL, yieldL, prodL, count_tree a h2, count_list r ss h3]
    simp
    omega
end
theorem fits_len {g : PG} : ∀ (l : List Tr) (ss : List Int), fitsL g l ss = true → l.length = ss.length
  | [], [], _ => rfl
  | [], _ :: _, h => by rw [fitsL] at h; cases h
  | _ :: _, [], h => by rw [fitsL] at h; cases h
  | a :: r, s :: ss, h => by rw [List.length_cons, List.length_cons, fits_len r ss (fits_split h).2.2]
mutual
theorem play_tree {g : PG} (hl : Lefts g) : ∀ (t : Tr) (A B rest : List Int), fitsT g t = true → (∀ x ∈ A, x < 0) → A.length + nodesT t + B.length ≤ 65536 → playR g (A ++ (rootT g t.prod).1 :: B) (prodT t ++ rest) = playR g (A ++ ((yieldT t).map symT ++ B)) rest
  | .mk n l, A, B, rest, h, hA, hb => by
    obtain ⟨h1, h2⟩ := fits_at h
    rw [prodT, yieldT]
    rw [nodesT] at hb
    by_cases hn : n < 0
    · have e : sideT g n = [] := by unfold sideT; rw [if_pos hn]
      have e2 : (rootT g n).1 = n := by unfold rootT; rw [if_pos hn]
      rw [e] at h2
      rw [fits_nil h2, if_pos hn, if_pos hn, prodL]
      show playR g (A ++ (rootT g n).1 :: B) ([] ++ [] ++ rest) = _
      rw [e2]
      simp [symT]
      congr 2
      congr 1
      omega
    · obtain ⟨m, rfl⟩ : ∃ m : Nat, n = (m : Int) := ⟨n.toNat, by omega⟩
      have hm : m < g.prods.length := by
        unfold rootT at h1
        rw [if_neg hn] at h1
        split at h1
        · rename_i h5; simpa using h5
        · cases h1
      have e : sideT g (m : Int) = g.prods[m].right := by
        unfold sideT
        rw [if_neg hn, dif_pos (by simpa using hm)]
        simp
      have e2 : (rootT g (m : Int)).1 = g.prods[m].left := by
        unfold rootT
        rw [if_neg hn, dif_pos (by simpa using hm)]
        simp
      rw [e] at h2
      have hlen := fits_len l _ h2
      have hln := len_nodes l
      rw [if_neg hn, if_neg hn]
      show playR g (A ++ (rootT g (m : Int)).1 :: B) ((m : Int) :: (prodL l ++ rest)) = _
      rw [e2, playR, step_root hA hm (hl _ (List.getElem_mem hm)) (by omega)]
      exact play_list hl l _ A B rest h2 hA (by omega)
theorem play_list {g : PG} (hl : Lefts g) : ∀ (l : List Tr) (ss A B rest : List Int), fitsL g l ss = true → (∀ x ∈ A, x < 0) → A.length + nodesL l + B.length ≤ 65536 → playR g (A ++ (ss ++ B)) (prodL l ++ rest) = playR g (A ++ ((yieldL l).map symT ++ B)) rest
  | [], [], A, B, rest, h, hA, hb => by simp [prodL, yieldL]
  | [], _ :: _, A, B, rest, h, hA, hb => by rw [fitsL] at h; cases h
  | _ :: _, [], A, B, rest, h, hA, hb => by rw [fitsL] at h; cases h
  | a :: r, s :: ss, A, B, rest, h, hA, hb => by
    obtain ⟨h1, h2, h3⟩ := fits_split h
    rw [nodesL] at hb
    have hlr := fits_len r ss h3
    have hln := len_nodes r
    have hc := count_tree a h2
    rw [prodL, yieldL, List.append_assoc, List.cons_append, ← h1, play_tree hl a A (ss ++ B) _ h2 hA (by rw [List.length_append]; omega)]
    have hn := yield_neg a h2
    rw [← List.append_assoc A, play_list hl r ss (A ++ (yieldT a).map symT) B rest h3 (fun x hx => by
      rcases List.mem_append.1 hx with hx | hx
      · exact hA x hx
      · exact hn x hx) (by rw [List.length_append, List.length_map]; omega)]
    rw [List.map_append, List.append_assoc, List.append_assoc]
end
theorem play_all {g : PG} (hl : Lefts g) {t : Tr} (h : fitsT g t = true) (hn : nodesT t ≤ 65536) : playR g [(rootT g t.prod).1] (prodT t) = .ok ((yieldT t).map symT) := by
  have := play_tree hl t [] [] [] h (by simp) (by simpa using hn)
  simp only [List.nil_append, List.append_nil] at this
  rw [this, playR]
end Go.Proofs.Ytjlppffkacimoaa.Tr
