/-
  Layer 14: what is read is what its bytes say: plain mathematics.
-/
import Derived.Test.YtjlppffkacimoaaTrYa
namespace Go.Proofs.Ytjlppffkacimoaa.Tr
open Go.RowKit
open Oct (pb gb gb_by_pb)
open Fx (Prd PG)
set_option maxRecDepth 100000
set_option linter.unusedSimpArgs false
set_option linter.unusedVariables false

theorem gb_back (s : List UInt8) (h : (gb s).2.2 = 0) : s = pb (gb s).1 ++ s.drop (gb s).2.1 ∧ 1 ≤ (gb s).2.1 ∧ (gb s).2.1 ≤ s.length := by
  cases s with
  | nil => exact absurd h (by decide)
  | cons c l =>
    have hle := gbt_le _ h
    by_cases h1 : 7 < c.toNat % 128 ∨ c.toNat = 128
    · unfold gb at h; simp only at h; rw [if_pos h1] at h; exact absurd h (by decide)
    · by_cases h2 : l.length < c.toNat % 128
      · unfold gb at h; simp only at h; rw [if_neg h1, if_pos h2] at h; exact absurd h (by decide)
      · have hg := gb_by_pb c l h1 h2
        generalize (if 127 < c.toNat then -(Oct.val (l.take (c.toNat % 128)) : Int) else (Oct.val (l.take (c.toNat % 128)) : Int)) = v at hg
        by_cases hp : pb v = c :: l.take (c.toNat % 128)
        · rw [if_pos hp] at hg
          rw [hg] at hle ⊢
          refine ⟨?_, Nat.succ_le_succ (Nat.zero_le _), hle⟩
          simp only
          rw [hp, List.drop_succ_cons, List.cons_append, List.take_append_drop]
        · rw [if_neg hp] at hg
          rw [hg] at h
          exact absurd h (by decide)
theorem gb_num (s : List UInt8) : -9007199254740992 ≤ (gb s).1 ∧ (gb s).1 ≤ 9007199254740992 := by
  unfold gb
  split
  · simp
  · simp only
    split
    · simp
    · split
      · simp
      · split
        · simp
        · rename_i h
          simp only
          split <;> omega
theorem node_back {g : PG} {o : Option Int} {s : List UInt8} {nd : Nat} {n : Int} {j : Nat} (h : nodeR g o s nd = .ok (n, j)) : s = pb n ++ s.drop j ∧ 1 ≤ j ∧ j ≤ s.length ∧ (rootT g n).2 = true ∧ suchB o (rootT g n).1 = true := by
  have hb := gb_back s
  have hle := gbe_le s
  unfold nodeR at h
  simp only at h
  by_cases h0 : (gb s).2.2 = 0
  · rw [if_pos h0] at h
    by_cases h6 : nd = 65536 ∧ wrongT g o (gb s).1 ≠ 10 ∧ wrongT g o (gb s).1 ≠ 7
    · rw [if_pos h6, if_neg (by decide)] at h
      cases h
    · rw [if_neg h6] at h
      by_cases hw : wrongT g o (gb s).1 = 0
      · rw [if_pos hw] at h
        injection h with h
        injection h with h2 h3
        subst h2
        subst h3
        unfold wrongT at hw
        split at hw
        · rename_i hr
          split at hw
          · rename_i hs
            exact ⟨(hb h0).1, (hb h0).2.1, (hb h0).2.2, hr, hs⟩
          · omega
        · omega
      · rw [if_neg hw] at h
        cases h
  · rw [if_neg h0] at h
    by_cases h6 : nd = 65536 ∧ (gb s).2.2 ≠ 10 ∧ (gb s).2.2 ≠ 7
    · rw [if_pos h6, if_neg (by decide)] at h
      cases h
    · rw [if_neg h6, if_neg h0] at h
      cases h
theorem putL_snoc (t : Tr) : ∀ l : List Tr, putL (l ++ [t]) = putL l ++ putT t
  | [] => by simp [putL]
  | a :: l => by rw [List.cons_append, putL, putL, putL_snoc t l, List.append_assoc]
/-- What a tree's reader leaves: the tree's bytes stand ahead of the rest. -/
def Back (g : PG) (T : Int → List UInt8 → Nat → TRes) : Prop := ∀ (y : Int) (s : List UInt8) (nd : Nat) (t : Tr) (s' : List UInt8) (nd' : Nat), T y s nd = .ok (t, s', nd') → s = putT t ++ s' ∧ fitsT g t = true ∧ (rootT g t.prod).1 = y ∧ nd' = nd + nodesT t ∧ nd' + s'.length ≤ nd + s.length
theorem fits_root {g : PG} {t : Tr} (h : fitsT g t = true) : (rootT g t.prod).2 = true := by
  obtain ⟨n, l⟩ := t
  exact (fits_at h).1
theorem kids_back {g : PG} {T : Int → List UInt8 → Nat → TRes} (hT : Back g T) : ∀ (ys : List Int) (acc : List Tr) (s : List UInt8) (nd : Nat) (l : List Tr) (s' : List UInt8) (nd' : Nat), kidsG T acc ys s nd = .ok (l, s', nd') → ∃ k, l = acc ++ k ∧ s = putL k ++ s' ∧ fitsL g k ys = true ∧ nd' = nd + nodesL k ∧ nd' + s'.length ≤ nd + s.length
  | [], acc, s, nd, l, s', nd', h => by
    rw [kidsG] at h
    injection h with h
    injection h with h1 h2
    injection h2 with h2 h3
    subst h1 h2 h3
    exact ⟨[], by simp, by simp [putL], by rw [fitsL], by rw [nodesL]; omega, by omega⟩
  | y :: ys, acc, s, nd, l, s', nd', h => by
    rw [kidsG] at h
    cases hq : T y s nd with
    | error e => rw [hq] at h; cases h
    | ok p =>
      obtain ⟨t, s2, nd2⟩ := p
      rw [hq] at h
      simp only at h
      obtain ⟨b1, b2, b3, b4, b5⟩ := hT y s nd t s2 nd2 hq
      obtain ⟨k, k1, k2, k3, k4, k5⟩ := kids_back hT ys (acc ++ [t]) s2 nd2 l s' nd' h
      refine ⟨t :: k, by rw [k1, List.append_assoc]; rfl, by rw [putL, List.append_assoc, ← k2]; exact b1, ?_, by rw [nodesL]; omega, by omega⟩
      rw [fitsL, fits_root b2, b2, k3]
      simp [b3]
theorem tree_back (g : PG) : ∀ (f : Nat) (o : Option Int) (s : List UInt8) (nd : Nat) (t : Tr) (s' : List UInt8) (nd' : Nat), treeR g f o s nd = .ok (t, s', nd') → s = putT t ++ s' ∧ fitsT g t = true ∧ suchB o (rootT g t.prod).1 = true ∧ nd' = nd + nodesT t ∧ nd' + s'.length ≤ nd + s.length
  | 0, o, s, nd, t, s', nd', h => by rw [treeR] at h; cases h
  | f + 1, o, s, nd, t, s', nd', h => by
    rw [treeR] at h
    cases hq : nodeR g o s nd with
    | error e => rw [hq] at h; cases h
    | ok p =>
      obtain ⟨n, j⟩ := p
      rw [hq] at h
      simp only at h
      obtain ⟨c1, c2, c3, c4, c5⟩ := node_back hq
      cases hk : kidsG (fun y => treeR g f (some y)) [] (sideT g n) (s.drop j) (nd + 1) with
      | error e => rw [hk, wrapK] at h; cases h
      | ok q =>
        obtain ⟨l, s2, nd2⟩ := q
        rw [hk, wrapK] at h
        injection h with h
        injection h with h1 h2
        injection h2 with h2 h3
        subst h1 h2 h3
        obtain ⟨k, k1, k2, k3, k4, k5⟩ := kids_back (g := g) (T := fun y => treeR g f (some y)) (fun y s nd t s' nd' h => by
          obtain ⟨x1, x2, x3, x4, x5⟩ := tree_back g f (some y) s nd t s' nd' h
          exact ⟨x1, x2, by simpa [suchB] using x3, x4, x5⟩) _ _ _ _ _ _ _ hk
        rw [List.nil_append] at k1
        subst k1
        rw [List.length_drop] at k5
        refine ⟨by rw [putT, List.append_assoc, ← k2]; exact c1, by rw [fitsT, c4, k3]; rfl, c5, by rw [nodesT]; omega, by omega⟩
/-- The bytes that are read are the tree's; it keeps the grammar, and has no more nodes than bytes. -/
theorem get_back {g : PG} {s : List UInt8} {t : Tr} (h : getT g s = .ok t) : s = putT t ∧ fitsT g t = true ∧ nodesT t ≤ s.length := by
  unfold getT at h
  cases hq : treeR g 65537 none s 0 with
  | error e => rw [hq] at h; cases h
  | ok p =>
    obtain ⟨t2, s2, nd2⟩ := p
    rw [hq] at h
    simp only at h
    split at h
    · rename_i hs
      injection h with h
      subst h hs
      obtain ⟨x1, x2, _, x4, x5⟩ := tree_back g _ _ _ _ _ _ _ hq
      rw [List.append_nil] at x1
      exact ⟨x1, x2, by simp at x5; omega⟩
    · cases h
end Go.Proofs.Ytjlppffkacimoaa.Tr
