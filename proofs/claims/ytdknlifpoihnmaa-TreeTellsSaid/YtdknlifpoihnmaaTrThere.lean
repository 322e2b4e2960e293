/-
  Layer 14: what is read is what its bytes say: plain mathematics.
  Layer 14: the document's There and Root.
-/
import Derived.Test.YtdknlifpoihnmaaTrYa

namespace Go.Proofs.Ytdknlifpoihnmaa.Tr
open Go.RowKit
open Oct (pb gb gb_by_pb)
open Fx (Prd PG)
set_option maxRecDepth 100000
set_option linter.unusedSimpArgs false
set_option linter.unusedVariables false

theorem gb_back (s : List UInt8) (h : (gb s).2.2 = 0) : s = pb (gb s).1 ++ s.drop (gb s).2.1 ∧ 1 ≤ (gb s).2.1 ∧ (gb s).2.1 ≤ s.length := by
  cases s with
  | nil => exact absurd h (by decide)
  | cons c l =>
    have hle := gbt_le _ h
    by_cases h1 : 7 < c.toNat % 128 ∨ c.toNat = 128
    · unfold gb at h; simp only at h; rw [if_pos h1] at h; exact absurd h (by decide)
    · by_cases h2 : l.length < c.toNat % 128
      · unfold gb at h; simp only at h; rw [if_neg h1, if_pos h2] at h; exact absurd h (by decide)
      · have hg := gb_by_pb c l h1 h2
        generalize (if 127 < c.toNat then -(Oct.val (l.take (c.toNat % 128)) : Int) else (Oct.val (l.take (c.toNat % 128)) : Int)) = v at hg
        by_cases hp : pb v = c :: l.take (c.toNat % 128)
        · rw [if_pos hp] at hg
          rw [hg] at hle ⊢
          refine ⟨?_, Nat.succ_le_succ (Nat.zero_le _), hle⟩
          simp only
          rw [hp, List.drop_succ_cons, List.cons_append, List.take_append_drop]
        · rw [if_neg hp] at hg
          rw [hg] at h
          exact absurd h (by decide)
theorem gb_num (s : List UInt8) : -9007199254740992 ≤ (gb s).1 ∧ (gb s).1 ≤ 9007199254740992 := by
  unfold gb
  split
  · simp
  · simp only
    split
    · simp
    · split
      · simp
      · split
        · simp
        · rename_i h
          simp only
          split <;> omega
theorem node_back {g : PG} {o : Option Int} {s : List UInt8} {nd : Nat} {n : Int} {j : Nat} (h : nodeR g o s nd = .ok (n, j)) : s = pb n ++ s.drop j ∧ 1 ≤ j ∧ j ≤ s.length ∧ (rootT g n).2 = true ∧ suchB o (rootT g n).1 = true := by
  have hb := gb_back s
  have hle := gbe_le s
  unfold nodeR at h
  simp only at h
  by_cases h0 : (gb s).2.2 = 0
  · rw [if_pos h0] at h
    by_cases h6 : nd = 65536 ∧ wrongT g o (gb s).1 ≠ 10 ∧ wrongT g o (gb s).1 ≠ 7
    · rw [if_pos h6, if_neg (by decide)] at h
      cases h
    · rw [if_neg h6] at h
      by_cases hw : wrongT g o (gb s).1 = 0
      · rw [if_pos hw] at h
        injection h with h
        injection h with h2 h3
        subst h2
        subst h3
        unfold wrongT at hw
        split at hw
        · rename_i hr
          split at hw
          · rename_i hs
            exact ⟨(hb h0).1, (hb h0).2.1, (hb h0).2.2, hr, hs⟩
          · omega
        · omega
      · rw [if_neg hw] at h
        cases h
  · rw [if_neg h0] at h
    by_cases h6 : nd = 65536 ∧ (gb s).2.2 ≠ 10 ∧ (gb s).2.2 ≠ 7
    · rw [if_pos h6, if_neg (by decide)] at h
      cases h
    · rw [if_neg h6, if_neg h0] at h
      cases h
theorem putL_snoc (t : Tr) : ∀ l : List Tr, putL (l ++ [t]) = putL l ++ putT t
  | [] => by simp [putL]
  | a :: l => by rw [List.cons_append, putL, putL, putL_snoc t l, List.append_assoc]
/-- What a tree's reader leaves: the tree's bytes stand ahead of the rest. -/
def Back (g : PG) (T : Int → List UInt8 → Nat → TRes) : Prop := ∀ (y : Int) (s : List UInt8) (nd : Nat) (t : Tr) (s' : List UInt8) (nd' : Nat), T y s nd = .ok (t, s', nd') → s = putT t ++ s' ∧ fitsT g t = true ∧ (rootT g t.prod).1 = y ∧ nd' = nd + nodesT t ∧ nd' + s'.length ≤ nd + s.length
theorem fits_root {g : PG} {t : Tr} (h : fitsT g t = true) : (rootT g t.prod).2 = true := by
  obtain ⟨n, l⟩ := t
  exact (fits_at h).1
theorem kids_back {g : PG} {T : Int → List UInt8 → Nat → TRes} (hT : Back g T) : ∀ (ys : List Int) (acc : List Tr) (s : List UInt8) (nd : Nat) (l : List Tr) (s' : List UInt8) (nd' : Nat), kidsG T acc ys s nd = .ok (l, s', nd') → ∃ k, l = acc ++ k ∧ s = putL k ++ s' ∧ fitsL g k ys = true ∧ nd' = nd + nodesL k ∧ nd' + s'.length ≤ nd + s.length
  | [], acc, s, nd, l, s', nd', h => by
    rw [kidsG] at h
    injection h with h
    injection h with h1 h2
    injection h2 with h2 h3
    subst h1 h2 h3
    exact ⟨[], by simp, by simp [putL], by rw [fitsL], by rw [nodesL]; omega, by omega⟩
  | y :: ys, acc, s, nd, l, s', nd', h => by
    rw [kidsG] at h
    cases hq : T y s nd with
    | error e => rw [hq] at h; cases h
    | ok p =>
      obtain ⟨t, s2, nd2⟩ := p
      rw [hq] at h
      simp only at h
      obtain ⟨b1, b2, b3, b4, b5⟩ := hT y s nd t s2 nd2 hq
      obtain ⟨k, k1, k2, k3, k4, k5⟩ := kids_back hT ys (acc ++ [t]) s2 nd2 l s' nd' h
      refine ⟨t :: k, by rw [k1, List.append_assoc]; rfl, by rw [putL, List.append_assoc, ← k2]; exact b1, ?_, by rw [nodesL]; omega, by omega⟩
      rw [fitsL, fits_root b2, b2, k3]
      simp [b3]
theorem tree_back (g : PG) : ∀ (f : Nat) (o : Option Int) (s : List UInt8) (nd : Nat) (t : Tr) (s' : List UInt8) (nd' : Nat), treeR g f o s nd = .ok (t, s', nd') → s = putT t ++ s' ∧ fitsT g t = true ∧ suchB o (rootT g t.prod).1 = true ∧ nd' = nd + nodesT t ∧ nd' + s'.length ≤ nd + s.length
  | 0, o, s, nd, t, s', nd', h => by rw [treeR] at h; cases h
  | f + 1, o, s, nd, t, s', nd', h => by
    rw [treeR] at h
    cases hq : nodeR g o s nd with
    | error e => rw [hq] at h; cases h
    | ok p =>
      obtain ⟨n, j⟩ := p
      rw [hq] at h
      simp only at h
      obtain ⟨c1, c2, c3, c4, c5⟩ := node_back hq
      cases hk : kidsG (fun y => treeR g f (some y)) [] (sideT g n) (s.drop j) (nd + 1) with
      | error e => rw [hk, wrapK] at h; cases h
      | ok q =>
        obtain ⟨l, s2, nd2⟩ := q
        rw [hk, wrapK] at h
        injection h with h
        injection h with h1 h2
        injection h2 with h2 h3
        subst h1 h2 h3
        obtain ⟨k, k1, k2, k3, k4, k5⟩ := kids_back (g := g) (T := fun y => treeR g f (some y)) (fun y s nd t s' nd' h => by
          obtain ⟨x1, x2, x3, x4, x5⟩ := tree_back g f (some y) s nd t s' nd' h
          exact ⟨x1, x2, by simpa [suchB] using x3, x4, x5⟩) _ _ _ _ _ _ _ hk
        rw [List.nil_append] at k1
        subst k1
        rw [List.length_drop] at k5
        refine ⟨by rw [putT, List.append_assoc, ← k2]; exact c1, by rw [fitsT, c4, k3]; rfl, c5, by rw [nodesT]; omega, by omega⟩
/-- The bytes that are read are the tree's; it keeps the grammar, and has no more nodes than bytes. -/
theorem get_back {g : PG} {s : List UInt8} {t : Tr} (h : getT g s = .ok t) : s = putT t ∧ fitsT g t = true ∧ nodesT t ≤ s.length := by
  unfold getT at h
  cases hq : treeR g 65537 none s 0 with
  | error e => rw [hq] at h; cases h
  | ok p =>
    obtain ⟨t2, s2, nd2⟩ := p
    rw [hq] at h
    simp only at h
    split at h
    · rename_i hs
      injection h with h
      subst h hs
      obtain ⟨x1, x2, _, x4, x5⟩ := tree_back g _ _ _ _ _ _ _ hq
      rw [List.append_nil] at x1
      exact ⟨x1, x2, by simp at x5; omega⟩
    · cases h
end Go.Proofs.Ytdknlifpoihnmaa.Tr

namespace Go.Proofs.Ytdknlifpoihnmaa.Tr
open Go.RowKit
open Gn (Asks)
open Fx (IntsAt StrsAt Prd PG PrdsAt PgAt)
set_option maxRecDepth 100000
set_option linter.unusedSimpArgs false
set_option linter.unusedVariables false

theorem there_any (g : PG) (hf : Fit g) (P : Nat → Prop) (W : World) (v : Value) (h : PgAt P W g v) (n : Int) (hn1 : -9007199254740992 ≤ n) (hn2 : n ≤ 9007199254740992) :
    Calls Try.prog 33 #[v, .int .i64 n] W (Asks (rootT g n).2 W) := by
  obtain ⟨An, At_, Ap, cn, ct, cp, rfl, hN, hT, hP⟩ := h.open_
  obtain ⟨lt, hlt⟩ : ∃ lt, lt = g.terms.length := ⟨_, rfl⟩
  obtain ⟨lp, hlp⟩ : ∃ lp, lp = g.prods.length := ⟨_, rfl⟩
  have h1 := hf.terms
  have h2 := hf.prods
  rw [← hlt] at h1
  rw [← hlp] at h2
  have HB := Lib.hid ((Below.refl W.heap.size W).alloc (Nat.le_refl _) (.cells #[.int .i64 g.start, .int .i64 g.rules, .slice An g.names.length cn, .slice At_ g.terms.length ct, .slice Ap g.prods.length cp] 34))
  have hbx := heap_alloc_new W (.cells #[.int .i64 g.start, .int .i64 g.rules, .slice An g.names.length cn, .slice At_ g.terms.length ct, .slice Ap g.prods.length cp] 34)
  rw [← hlt, ← hlp] at HB hbx ⊢
  have b3 := cell_of_row _ _ 3 _ _ (0, 0) hbx
  have b4 := cell_of_row _ _ 4 _ _ (0, 0) hbx
  obtain ⟨rb, hrb⟩ : ∃ rb, rb = (rootT g n).2 := ⟨_, rfl⟩
  rw [← hrb]
  have hrt : rb = if n < 0 then decide (-1 - n < (lt : Int)) else decide (n < (lp : Int)) := by
    rw [hrb]
    unfold rootT
    split
    · rw [← hlt]
      exact decide_eq_decide.2 (by omega)
    · split
      · rename_i h5 h6
        exact (decide_eq_true (by omega)).symm
      · rename_i h5 h6
        exact (decide_eq_false (by omega)).symm
  have HRT := Lib.hid hrt
  clear hbx hT hN hP h hlt hlp hrb hrt
  by_cases hn : n < 0
  · have hw : wrap64 (-1 - n) = -1 - n := by unfold wrap64; omega
    have HQ := Lib.hid (show rb = decide (-1 - n < (lt : Int)) by rw [HRT.out, if_pos hn])
    clear HRT
    go_enter Try.func33, Try.ntmps33
    go_wp2_with fail
    go_ret
    rw [HQ.out]
    exact ⟨rfl, HB.out⟩
  · have HQ := Lib.hid (show rb = decide (n < (lp : Int)) by rw [HRT.out, if_neg hn])
    clear HRT
    go_enter Try.func33, Try.ntmps33
    go_wp2_with fail
    go_ret
    rw [HQ.out]
    exact ⟨rfl, HB.out⟩
theorem root_any (g : PG) (hf : Fit g) (P : Nat → Prop) (W : World) (v : Value) (h : PgAt P W g v) (n : Int) (hn1 : (rootT g n).2 = true) :
    Calls Try.prog 34 #[v, .int .i64 n] W fun e w' => e = .returned (.int .i64 (rootT g n).1) ∧ Below W.heap.size W w' := by
  obtain ⟨An, At_, Ap, cn, ct, cp, rfl, hN, hT, hP⟩ := h.open_
  obtain ⟨lp, hlp⟩ : ∃ lp, lp = g.prods.length := ⟨_, rfl⟩
  obtain ⟨A2, cap, b, f, e1, hcap, hA, hc⟩ := hP
  injection e1 with e1 e2 e3
  subst e1 e3
  have h2 := hf.prods
  rw [← hlp] at h2 hA
  have HB := Lib.hid ((Below.refl W.heap.size W).alloc (Nat.le_refl _) (.cells #[.int .i64 g.start, .int .i64 g.rules, .slice An g.names.length cn, .slice At_ g.terms.length ct, .slice Ap g.prods.length cp] 34))
  have hbx := heap_alloc_new W (.cells #[.int .i64 g.start, .int .i64 g.rules, .slice An g.names.length cn, .slice At_ g.terms.length ct, .slice Ap g.prods.length cp] 34)
  rw [← hlp] at HB hbx ⊢
  have b4 := cell_of_row _ _ 4 _ _ (0, 0) hbx
  have HLP := Lib.hid hlp
  clear hbx hT hN h hlp
  by_cases hn : n < 0
  · have HE := Lib.hid (show (rootT g n).1 = n by unfold rootT; rw [if_pos hn])
    go_enter Try.func34, Try.ntmps34
    go_wp2_with fail
    go_ret
    rw [HE.out]
    exact ⟨rfl, HB.out⟩
  · obtain ⟨k, rfl⟩ : ∃ k : Nat, n = (k : Int) := ⟨n.toNat, by omega⟩
    have hkp : k < g.prods.length := by
      unfold rootT at hn1
      rw [if_neg hn] at hn1
      split at hn1
      · rename_i h5; simpa using h5
      · cases hn1
    obtain ⟨rfl, hbl, hPb⟩ := hA (by rw [HLP.out]; omega)
    obtain ⟨q0, q1, q2⟩ := hc k hkp
    have HE := Lib.hid (show (rootT g (k : Int)).1 = g.prods[k].left by unfold rootT; rw [if_neg hn, dif_pos (by simpa using hkp)]; simp)
    have hk2 : k < lp := by rw [HLP.out]; exact hkp
    obtain ⟨lf, hlf⟩ : ∃ lf, lf = g.prods[k].left := ⟨_, rfl⟩
    rw [← hlf] at q0 HE
    have y0 := (HB.out.cell (p := ⟨b, k * 2, none⟩) hbl).trans q0
    clear q0 q1 q2 hc hlf hA hn1
    go_enter Try.func34, Try.ntmps34
    go_wp2_with fail
    go_ret
    rw [HE.out]
    exact ⟨rfl, HB.out⟩
end Go.Proofs.Ytdknlifpoihnmaa.Tr
