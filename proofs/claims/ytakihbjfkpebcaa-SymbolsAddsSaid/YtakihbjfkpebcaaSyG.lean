/-
  Layer 7: with a rule for each name that has none, and the start, only names that stand twice are told.
-/
import Derived.Test.YtakihbjfkpebcaaSyD
import Derived.Test.YtakihbjfkpebcaaSyF
namespace Go.Proofs.Ytakihbjfkpebcaa.Sx
set_option maxRecDepth 100000
set_option linter.unusedSimpArgs false
set_option linter.unusedVariables false

theorem firstGo_app (s : Nam) : ∀ (a b : List Rul) (k : Nat), firstGo (a ++ b) s k = if firstGo a s k = -1 then firstGo b s (k + a.length) else firstGo a s k
  | [], b, k => by simp [firstGo]
  | r :: a, b, k => by
    rw [List.cons_append, firstGo, firstGo]
    by_cases h : r.1 = s
    · rw [if_pos h, if_pos h, if_neg (by omega)]
    · rw [if_neg h, if_neg h, firstGo_app s a b (k + 1), List.length_cons, show k + 1 + a.length = k + (a.length + 1) by omega]
theorem firstGo_no (s : Nam) : ∀ (l : List Rul) (k : Nat), firstGo l s k = -1 ↔ s ∉ l.map (·.1)
  | [], k => by simp [firstGo]
  | r :: l, k => by
    rw [firstGo, List.map_cons, List.mem_cons, not_or]
    by_cases h : r.1 = s
    · rw [if_pos h]
      exact ⟨fun e => by omega, fun e => absurd h.symm e.1⟩
    · rw [if_neg h, firstGo_no s l (k + 1)]
      exact ⟨fun e => ⟨fun e2 => h e2.symm, e⟩, fun e => e.2⟩
theorem firstGo_at (s : Nam) : ∀ (l : List Rul) (k i : Nat) (hi : i < l.length), l[i].1 = s → (∀ m (hm : m < i), (l[m]'(by omega)).1 ≠ s) → firstGo l s k = ((k + i : Nat) : Int)
  | r :: l, k, 0, _, h, _ => by
    rw [firstGo, if_pos (by simpa using h)]
    simp
  | r :: l, k, i + 1, hi, h, hm => by
    have h0 : r.1 ≠ s := by simpa using hm 0 (by omega)
    rw [firstGo, if_neg h0, firstGo_at s l (k + 1) i (by simpa using hi) (by simpa using h) (fun m hmi => by simpa using hm (m + 1) (by omega))]
    omega
theorem firstGo_le (s : Nam) : ∀ (l : List Rul) (k i : Nat) (hi : i < l.length), l[i].1 = s → firstGo l s k ≤ ((k + i : Nat) : Int)
  | r :: l, k, 0, _, h => by
    rw [firstGo, if_pos (by simpa using h)]
    simp
  | r :: l, k, i + 1, hi, h => by
    rw [firstGo]
    split
    · omega
    · have := firstGo_le s l (k + 1) i (by simpa using hi) (by simpa using h)
      omega
/-- How many stand twice. -/
def twGo (rs : List Rul) : Nat → List Rul → Nat
  | _, [] => 0
  | k, r :: l => (if firstP rs r.1 = (k : Int) then 0 else 1) + twGo rs (k + 1) l
theorem twGo_snoc (rs : List Rul) (r : Rul) : ∀ (l : List Rul) (k : Nat), twGo rs k (l ++ [r]) = twGo rs k l + (if firstP rs r.1 = ((k + l.length : Nat) : Int) then 0 else 1)
  | [], k => by simp [twGo]
  | a :: l, k => by
    rw [List.cons_append, twGo, twGo, twGo_snoc rs r l (k + 1), List.length_cons, show k + 1 + l.length = k + (l.length + 1) by omega]
    omega
theorem twGo_app (rs : List Rul) : ∀ (a b : List Rul) (k : Nat), twGo rs k (a ++ b) = twGo rs k a + twGo rs (k + a.length) b
  | [], b, k => by simp [twGo]
  | r :: a, b, k => by
    rw [List.cons_append, twGo, twGo, twGo_app rs a b (k + 1), List.length_cons, show k + 1 + a.length = k + (a.length + 1) by omega]
    omega
theorem twGo_le (rs : List Rul) : ∀ (l : List Rul) (k : Nat), twGo rs k l ≤ l.length
  | [], k => Nat.le_refl _
  | r :: l, k => by
    have := twGo_le rs l (k + 1)
    rw [twGo, List.length_cons]
    split <;> omega
theorem twGo_same (rs rs' : List Rul) : ∀ (l : List Rul) (k : Nat), (∀ r ∈ l, firstP rs r.1 = firstP rs' r.1) → twGo rs k l = twGo rs' k l
  | [], _, _ => rfl
  | r :: l, k, h => by
    rw [twGo, twGo, h r (by simp), twGo_same rs rs' l (k + 1) (fun x hx => h x (List.mem_cons_of_mem _ hx))]
/-- Where each name that is used has a rule, only names that stand twice are told. -/
theorem rulesGo_tw (rs : List Rul) : ∀ (l : List Rul) (k : Nat), (∀ r ∈ l, ∀ s ∈ refs r.2, firstP rs s ≠ -1) → (∀ p ∈ rulesGo rs k l, p.1 = 9) ∧ (rulesGo rs k l).length = twGo rs k l
  | [], _, _ => ⟨by simp [rulesGo], rfl⟩
  | r :: l, k, h => by
    obtain ⟨h1, h2⟩ := rulesGo_tw rs l (k + 1) (fun x hx => h x (List.mem_cons_of_mem _ hx))
    have h3 : noneP rs k (onceP (refs r.2)) = [] := by
      unfold noneP
      rw [List.filter_eq_nil_iff.2, List.map_nil]
      intro s hs
      simpa using h r (by simp) s (onceP_mem hs)
    have h4 : ruleP rs k r = if firstP rs r.1 = (k : Int) then [] else [(9, (k : Int), r.1)] := by unfold ruleP; rw [h3, List.append_nil]
    rw [rulesGo, h4, twGo]
    refine ⟨fun p hp => ?_, ?_⟩
    · rcases List.mem_append.1 hp with hp | hp
      · split at hp
        · simp at hp
        · rw [List.mem_singleton.1 hp]
      · exact h1 p hp
    · rw [List.length_append, h2]
      split <;> simp
/-- Rules for some names. -/
def newR (xs : List Nam) : List Rul := xs.map fun s => (s, .node 3 [] [])
theorem newR_nms (xs : List Nam) : (newR xs).map (·.1) = xs := by
  unfold newR
  rw [List.map_map]
  exact List.map_id' _
theorem newR_snoc (xs : List Nam) (s : Nam) : newR (xs ++ [s]) = newR xs ++ [(s, .node 3 [] [])] := by simp [newR]
theorem newR_len (xs : List Nam) : (newR xs).length = xs.length := by simp [newR]
theorem newR_tw (rs : List Rul) (xs : List Nam) (hd : xs.Nodup) (hn : ∀ s ∈ xs, s ∉ rs.map (·.1)) : twGo (rs ++ newR xs) rs.length (newR xs) = 0 := by
  have go : ∀ (b a : List Nam), xs = a ++ b → twGo (rs ++ newR xs) (rs.length + a.length) (newR b) = 0 := by
    intro b
    induction b with
    | nil => intro a _; rfl
    | cons s b ih =>
      intro a e
      have h1 := ih (a ++ [s]) (by rw [e]; simp)
      rw [List.length_append, List.length_singleton, ← Nat.add_assoc] at h1
      have h2 : firstP (rs ++ newR xs) s = ((rs.length + a.length : Nat) : Int) := by
        unfold firstP
        rw [firstGo_app, if_pos ((firstGo_no s rs 0).2 (hn s (by rw [e]; simp)))]
        have hl : a.length < (newR xs).length := by rw [newR_len, e]; simp
        have hg : ∀ m (hm : m < xs.length), ((newR xs)[m]'(by rw [newR_len]; exact hm)).1 = xs[m] := fun m hm => by simp [newR]
        rw [firstGo_at s (newR xs) _ a.length hl (by rw [hg _ (by rw [e]; simp)]; simp [e]) (fun m hm => ?_)]
        · simp
        · rw [hg m (by rw [e]; simp; omega)]
          intro e2
          rw [e] at hd
          rw [List.nodup_append] at hd
          have : xs[m]'(by rw [e]; simp; omega) = a[m] := by simp [e, List.getElem_append_left hm]
          rw [this] at e2
          exact hd.2.2 a[m] (List.getElem_mem hm) s (by simp) e2
      show twGo (rs ++ newR xs) (rs.length + a.length) ((s, .node 3 [] []) :: newR b) = 0
      rw [twGo, h1]
      simp [h2]
  have := go xs [] rfl
  simpa using this
/-- The names without a rule. -/
def missL (rs : List Rul) (L : List Nam) : List Nam := L.filter fun s => decide (firstP rs s = -1)
theorem missL_take (rs : List Rul) (L : List Nam) (i : Nat) (h : i < L.length) : missL rs (L.take (i + 1)) = if firstP rs L[i] = -1 then missL rs (L.take i) ++ [L[i]] else missL rs (L.take i) := by
  unfold missL
  rw [List.take_succ_eq_append_getElem h, List.filter_append]
  by_cases e : firstP rs L[i] = -1
  · rw [if_pos e, List.filter_cons_of_pos (by rw [decide_eq_true e])]
    rfl
  · rw [if_neg e, List.filter_cons_of_neg (by rw [decide_eq_false e]; decide)]
    simp
theorem missL_len (rs : List Rul) (L : List Nam) : (missL rs L).length ≤ L.length := List.length_filter_le _ _
def addX (G : Gram) (L : List Nam) : List Nam := missL G.rules L ++ if G.start ∈ L then [] else [G.start]
theorem onceGo_nodup : ∀ (l acc : List Nam), acc.Nodup → (onceGo acc l).Nodup
  | [], acc, h => h
  | a :: l, acc, h => by
    rw [onceGo]
    split
    · exact onceGo_nodup l acc h
    · rename_i ha
      refine onceGo_nodup l _ ?_
      rw [List.nodup_append]
      exact ⟨h, by simp, fun x hx y hy e => by rw [List.mem_singleton.1 hy] at e; exact ha (e ▸ hx)⟩
/-- With a rule for each name that has none, and the start, only names that stand twice are told. -/
theorem adds_are (G : Gram) (L : List Nam) (hL : L.Nodup) (h1 : ∀ s ∈ G.rules.map (·.1), s ∈ L) (h2 : ∀ r ∈ G.rules, ∀ s ∈ refs r.2, s ∈ L) :
    (∀ p ∈ checkP ⟨G.start, G.rules ++ newR (addX G L)⟩, p.1 = 9) ∧ (checkP ⟨G.start, G.rules ++ newR (addX G L)⟩).length = twGo G.rules 0 G.rules := by
  obtain ⟨st, rs⟩ := G
  simp only at h1 h2
  have hmem : ∀ s, s ∈ rs.map (·.1) ∨ s ∈ addX ⟨st, rs⟩ L → firstP (rs ++ newR (addX ⟨st, rs⟩ L)) s ≠ -1 := fun s hs e => by
    have := (firstGo_no s _ 0).1 e
    rw [List.map_append, newR_nms] at this
    exact this (List.mem_append.2 hs)
  have hall : ∀ s ∈ L, firstP (rs ++ newR (addX ⟨st, rs⟩ L)) s ≠ -1 := fun s hs => by
    by_cases e : firstP rs s = -1
    · exact hmem s (.inr (List.mem_append.2 (.inl (List.mem_filter.2 ⟨hs, decide_eq_true e⟩))))
    · exact hmem s (.inl (by
        by_cases h : s ∈ rs.map (·.1)
        · exact h
        · exact absurd ((firstGo_no s rs 0).2 h) e))
  have hst : firstP (rs ++ newR (addX ⟨st, rs⟩ L)) st ≠ -1 := by
    by_cases h : st ∈ L
    · exact hall st h
    · exact hmem st (.inr (by unfold addX; rw [if_neg h]; simp))
  have hnd : (addX ⟨st, rs⟩ L).Nodup := by
    unfold addX
    rw [List.nodup_append]
    refine ⟨hL.filter _, by split <;> simp, fun a ha b hb e => ?_⟩
    split at hb
    · simp at hb
    · rename_i h
      rw [List.mem_singleton.1 hb] at e
      exact h (e ▸ (List.mem_filter.1 ha).1)
  have hno : ∀ s ∈ addX ⟨st, rs⟩ L, s ∉ rs.map (·.1) := fun s hs => by
    unfold addX at hs
    rcases List.mem_append.1 hs with hs | hs
    · exact (firstGo_no s rs 0).1 (of_decide_eq_true (List.mem_filter.1 hs).2)
    · split at hs
      · simp at hs
      · rename_i h
        rw [List.mem_singleton.1 hs]
        exact fun hm => h (h1 _ hm)
  obtain ⟨k1, k2⟩ := rulesGo_tw (rs ++ newR (addX ⟨st, rs⟩ L)) (rs ++ newR (addX ⟨st, rs⟩ L)) 0 (fun r hr s hs => by
    rcases List.mem_append.1 hr with hr | hr
    · exact hall s (h2 r hr s hs)
    · obtain ⟨x, _, rfl⟩ := List.mem_map.1 hr
      simp [refs, refsL] at hs)
  have hc : checkP ⟨st, rs ++ newR (addX ⟨st, rs⟩ L)⟩ = rulesGo (rs ++ newR (addX ⟨st, rs⟩ L)) 0 (rs ++ newR (addX ⟨st, rs⟩ L)) := by
    unfold checkP
    rw [if_neg hst, List.append_nil]
  rw [hc]
  refine ⟨k1, k2.trans ?_⟩
  rw [twGo_app, Nat.zero_add, newR_tw rs _ hnd hno, Nat.add_zero]
  refine twGo_same _ _ _ _ fun r hr => ?_
  unfold firstP
  rw [firstGo_app, if_neg]
  intro e
  exact (firstGo_no _ _ _).1 e (List.mem_map.2 ⟨r, hr, rfl⟩)
/-- A rule's name stood ahead just where its first rule isn't this one. -/
theorem twice_no (rs : List Rul) (i : Nat) (hi : i < rs.length) (h : ∀ m (hm : m < i), (rs[m]'(by omega)).1 ≠ rs[i].1) : twGo rs 0 (rs.take (i + 1)) = twGo rs 0 (rs.take i) := by
  have h1 : firstP rs rs[i].1 = ((0 + i : Nat) : Int) := firstGo_at rs[i].1 rs 0 i hi rfl h
  rw [List.take_succ_eq_append_getElem hi, twGo_snoc, List.length_take, Nat.min_eq_left (by omega), if_pos h1]
  rfl
theorem twice_yes (rs : List Rul) (i k : Nat) (hi : i < rs.length) (hk : k < i) (h : (rs[k]'(by omega)).1 = rs[i].1) : twGo rs 0 (rs.take (i + 1)) = twGo rs 0 (rs.take i) + 1 := by
  have h1 := firstGo_le rs[i].1 rs 0 k (by omega) h
  rw [List.take_succ_eq_append_getElem hi, twGo_snoc, List.length_take, Nat.min_eq_left (by omega), if_neg]
  unfold firstP
  omega
end Go.Proofs.Ytakihbjfkpebcaa.Sx

namespace Go.Proofs.Ytakihbjfkpebcaa.Sx
open Go.RowKit
open Lx (bs)
set_option maxRecDepth 100000
set_option linter.unusedSimpArgs false
set_option linter.unusedVariables false

theorem L_nodup (rs : List Rul) : (onceP (namesR rs rs)).Nodup := onceGo_nodup _ [] (by simp)
theorem L_rules (rs : List Rul) : ∀ s ∈ rs.map (·.1), s ∈ onceP (namesR rs rs) := fun s hs => onceP_iff.2 (List.mem_append.2 (.inl hs))
theorem L_refs (rs : List Rul) : ∀ r ∈ rs, ∀ s ∈ refs r.2, s ∈ onceP (namesR rs rs) := fun r hr s hs => onceP_iff.2 (List.mem_append.2 (.inr (List.mem_flatMap.2 ⟨r, hr, hs⟩)))
theorem read_pos {s : List UInt8} {G : Gram} {j : Nat} (h : parseS s = .ok G j) (hs : s.length ≤ 1000) : 0 < G.rules.length ∧ G.rules.length ≤ 64 ∧ ∀ r ∈ G.rules, (refs r.2).length ≤ 1001 := by
  obtain ⟨T, e, hsc, hek, het, hv, hT, _, hPT⟩ := parseS_ok h (by omega)
  obtain ⟨h32, hsm, hl0, h64⟩ := parse_small hek hv (by omega) hPT
  have hP := parseT_is (T ++ [e])
  rw [hPT] at hP
  have hc := gram_cn (T ++ [e]) _ G j hP
  exact ⟨hl0, h64, fun r hr => by have := hc r hr; unfold rc at this; simp at this; omega⟩
theorem L_small {rs : List Rul} (h : ∀ r ∈ rs, r.1.length ≤ 1048576 ∧ SmW r.2) : ∀ s ∈ onceP (namesR rs rs), s.length ≤ 1048576 := fun s hs => by
  rcases List.mem_append.1 (onceP_iff.1 hs) with hs | hs
  · obtain ⟨r, hr, rfl⟩ := List.mem_map.1 hs
    exact (h r hr).1
  · obtain ⟨r, hr, hs⟩ := List.mem_flatMap.1 hs
    exact refs_small (h r hr).2 s hs
theorem new_small {G : Gram} {L : List Nam} {K : Nat} (h1 : G.start.length ≤ 1048576) (h3 : ∀ r ∈ G.rules, r.1.length ≤ 1048576 ∧ SmW r.2 ∧ (refs r.2).length ≤ K) (hL : ∀ s ∈ L, s.length ≤ 1048576) :
    ∀ r ∈ G.rules ++ newR (addX G L), r.1.length ≤ 1048576 ∧ SmW r.2 ∧ (refs r.2).length ≤ K := fun r hr => by
  rcases List.mem_append.1 hr with hr | hr
  · exact h3 r hr
  · obtain ⟨s, hs, rfl⟩ := List.mem_map.1 hr
    refine ⟨?_, .mk 3 [] [] (by simp) (by simp) (fun a ha => absurd ha (by simp)), by simp [refs, refsL]⟩
    rcases List.mem_append.1 hs with hs | hs
    · exact hL s (List.mem_filter.1 hs).1
    · split at hs
      · simp at hs
      · rw [List.mem_singleton.1 hs]; exact h1
theorem addX_len (G : Gram) (L : List Nam) : (addX G L).length ≤ L.length + 1 := by
  unfold addX
  have := missL_len G.rules L
  rw [List.length_append]
  split
  · simp; omega
  · simp; omega
/-- The cells of a row of rules. -/
theorem RlsAt.news {P : Nat → Prop} {W : World} {rs : List Rul} {v : Value} (h : RlsAt P W rs v) (h0 : 0 < rs.length) : ∃ (cap r : Nat) (vs : List (Value × Value × Value × Value)), v = .slice (some ⟨r, 0, none⟩) rs.length cap ∧ rs.length ≤ cap ∧ r < W.heap.size ∧ P r ∧ vs.length = rs.length ∧
    (∀ (j : Nat) (u : Value), (cells4 vs)[j]? = some u → W.cell? (Addr.add ⟨r, 0, none⟩ j) = some u) ∧ (∀ u ∈ cells4 vs, u.oneCell' = true) ∧ ∀ (i : Nat) (hi : i < rs.length) (h2 : i < vs.length), vs[i].1 = .string (Lx.mk rs[i].1) ∧ Nd P W rs[i].2 vs[i].2.1 vs[i].2.2.1 vs[i].2.2.2 := by
  obtain ⟨A, cap, r, a, b, c, rfl, hcap, h3, h4⟩ := h
  obtain ⟨rfl, hr, hp⟩ := h3 h0
  have hlen : ((List.range rs.length).map fun i => ((Value.string (Lx.mk (rs.getD i rul0).1)), a i, b i, c i)).length = rs.length := by simp
  have hat : ∀ (i : Nat) (hi : i < rs.length) (h2 : i < ((List.range rs.length).map fun i => ((Value.string (Lx.mk (rs.getD i rul0).1)), a i, b i, c i)).length), ((List.range rs.length).map fun i => ((Value.string (Lx.mk (rs.getD i rul0).1)), a i, b i, c i))[i] = ((Value.string (Lx.mk rs[i].1)), a i, b i, c i) := fun i hi h2 => by
    simp [List.getD, List.getElem?_eq_getElem hi]
  obtain ⟨vs, hvs⟩ : ∃ vs, vs = ((List.range rs.length).map fun i => ((Value.string (Lx.mk (rs.getD i rul0).1)), a i, b i, c i)) := ⟨_, rfl⟩
  rw [← hvs] at hlen
  have hat' : ∀ (i : Nat) (hi : i < rs.length) (h2 : i < vs.length), vs[i] = ((Value.string (Lx.mk rs[i].1)), a i, b i, c i) := fun i hi h2 => by subst hvs; exact hat i hi h2
  have hl4 : ∀ l : List (Value × Value × Value × Value), (cells4 l).length = l.length * 4 := fun l => by
    induction l with
    | nil => rfl
    | cons x l ih => rw [show cells4 (x :: l) = x.1 :: x.2.1 :: x.2.2.1 :: x.2.2.2 :: cells4 l from rfl]; simp only [List.length_cons, ih]; omega
  refine ⟨cap, r, vs, rfl, hcap, hr, hp, hlen, fun j u hu => ?_, fun u hu => ?_, fun i hi h2 => ?_⟩
  · have hj : j < (cells4 vs).length := by
      rcases Nat.lt_or_ge j (cells4 vs).length with h | h
      · exact h
      · rw [List.getElem?_eq_none h] at hu; cases hu
    rw [hl4, hlen] at hj
    have hi : j / 4 < rs.length := by omega
    obtain ⟨c0, c1, c2, c3⟩ := cells4_at vs (j / 4) (by omega)
    obtain ⟨⟨d0, d1, d2, d3⟩, _⟩ := h4 (j / 4) hi
    rw [hat' _ hi (by omega)] at c0 c1 c2 c3
    rw [Lx.add_row]
    rcases (show j = j / 4 * 4 ∨ j = j / 4 * 4 + 1 ∨ j = j / 4 * 4 + 2 ∨ j = j / 4 * 4 + 3 by omega) with h | h | h | h
    · rw [h] at hu ⊢; rw [c0] at hu; injection hu with hu; rw [← hu]; exact d0
    · rw [h] at hu ⊢; rw [c1] at hu; injection hu with hu; rw [← hu]; exact d1
    · rw [h] at hu ⊢; rw [c2] at hu; injection hu with hu; rw [← hu]; exact d2
    · rw [h] at hu ⊢; rw [c3] at hu; injection hu with hu; rw [← hu]; exact d3
  · obtain ⟨x, hx, hu⟩ := List.mem_flatMap.1 hu
    obtain ⟨i, hi, rfl⟩ := List.getElem_of_mem hx
    rw [hat' i (by omega) hi] at hu
    obtain ⟨kk, ta, AA, qq, cc, f1, f2, f3⟩ := (h4 i (by omega)).2.form
    simp only [List.mem_cons, List.not_mem_nil, or_false] at hu
    rcases hu with rfl | rfl | rfl | rfl
    · rfl
    · rw [f1]; rfl
    · rw [f2]; rfl
    · rw [f3]; rfl
  · rw [hat' i hi h2]
    exact ⟨rfl, (h4 i hi).2⟩

/-- A row of rules of the law's own; the nodes are elder ones. -/
def VItems (V W : World) (v : Value) (acc : List Rul) : Prop :=
  ∃ vs : List (Value × Value × Value × Value), vs.length = acc.length ∧ W.ownsRow V.heap.size 65 4 v acc.length (cells4 vs) ∧
    ∀ (i : Nat) (h : i < acc.length) (h2 : i < vs.length), vs[i].1 = .string (Lx.mk acc[i].1) ∧ Nd (fun r => r < V.heap.size) V acc[i].2 vs[i].2.1 vs[i].2.2.1 vs[i].2.2.2
theorem VItems.snoc {V W w4 : World} {v v' : Value} {acc : List Rul} {s : Nam} (h : VItems V W v acc)
    (hown4 : ∀ vs : List (Value × Value × Value × Value), W.ownsRow V.heap.size 65 4 v acc.length (cells4 vs) → w4.ownsRow V.heap.size 65 4 v' (acc.length + 1) (cells4 vs ++ [.string (Lx.mk s), .int .i64 3, .string ⟨#[]⟩, .slice none 0 0])) :
    VItems V w4 v' (acc ++ [(s, .node 3 [] [])]) := by
  obtain ⟨vs, h1, h2, h3⟩ := h
  have ho := hown4 vs h2
  have hl : (acc ++ [((s, .node 3 [] []) : Rul)]).length = acc.length + 1 := by simp
  refine ⟨vs ++ [(.string (Lx.mk s), .int .i64 3, .string ⟨#[]⟩, .slice none 0 0)], by simp [h1], by rw [hl, cells4_snoc]; exact ho, fun i hi hi2 => ?_⟩
  by_cases hi3 : i < acc.length
  · have e1 : (acc ++ [((s, .node 3 [] []) : Rul)])[i] = acc[i] := List.getElem_append_left hi3
    have e2 : (vs ++ [(Value.string (Lx.mk s), Value.int .i64 3, Value.string ⟨#[]⟩, Value.slice none 0 0)])[i] = vs[i]'(by omega) := List.getElem_append_left (by omega)
    rw [e1, e2]
    exact h3 i hi3 (by omega)
  · have hie : i = acc.length := by rw [hl] at hi; omega
    subst hie
    have e1 : (acc ++ [((s, .node 3 [] []) : Rul)])[acc.length]'hi = (s, .node 3 [] []) := by simp
    have e2 : (vs ++ [(Value.string (Lx.mk s), Value.int .i64 3, Value.string ⟨#[]⟩, Value.slice none 0 0)])[acc.length]'hi2 = (.string (Lx.mk s), .int .i64 3, .string ⟨#[]⟩, .slice none 0 0) := by simp [← h1]
    rw [e1, e2]
    exact ⟨rfl, .mk 3 [] [] none 0 0 (fun _ => .bool false) (fun _ => .bool false) (fun _ => .bool false) (fun h => absurd h (by simp)) (by simp) (fun i h => absurd h (by simp)) (fun i h => absurd h (by simp))⟩
theorem VItems.keep {V W W' : World} {v : Value} {acc : List Rul} (h : VItems V W v acc) (hb : ∀ g, v.ownBlock = some g → W'.heap[g]? = W.heap[g]?) : VItems V W' v acc := by
  obtain ⟨vs, h1, h2, h3⟩ := h
  refine ⟨vs, h1, ⟨h2.1, ?_⟩, h3⟩
  rcases h2.2 with h4 | ⟨g, cp, cur, hv, hbr, hh, hrest⟩
  · exact .inl h4
  · exact .inr ⟨g, cp, cur, hv, hbr, (hb g (by rw [hv]; rfl)).trans hh, hrest⟩
theorem VItems.own_lt {V W : World} {v : Value} {acc : List Rul} (h : VItems V W v acc) : ∀ k, v.ownBlock = some k → k < W.heap.size ∧ V.heap.size ≤ k := by
  obtain ⟨vs, _, ho, _⟩ := h
  exact fun k hk => ⟨Gn.own_lt ho k hk, Gn.own_block ho k hk⟩
theorem VItems.rls {V W : World} {v : Value} {acc : List Rul} (h : VItems V W v acc) (b : Below V.heap.size V W) : RlsAt (fun r => r < W.heap.size) W acc v := by
  obtain ⟨vs, h1, h2, h3⟩ := h
  have hs := b.size
  rcases h2.2 with ⟨hv, hn⟩ | ⟨g, cp, cur, hv, hbr, hh, hnc, _⟩
  · have e : acc = [] := List.eq_nil_of_length_eq_zero hn
    subst e
    rw [hv]
    exact RlsAt.nil _ _ none 0
  · have hcell := h2.cells (g := g) (by rw [hv]; rfl)
    refine ⟨some ⟨g, 0, none⟩, cp, g, fun i => (vs.getD i (.bool false, .bool false, .bool false, .bool false)).2.1, fun i => (vs.getD i (.bool false, .bool false, .bool false, .bool false)).2.2.1, fun i => (vs.getD i (.bool false, .bool false, .bool false, .bool false)).2.2.2, hv, hnc, fun _ => ⟨rfl, Gn.heap_lt hh, Gn.heap_lt hh⟩, fun i hi => ?_⟩
    have e : vs.getD i (.bool false, .bool false, .bool false, .bool false) = vs[i]'(by omega) := by simp [List.getD, List.getElem?_eq_getElem (show i < vs.length by omega)]
    obtain ⟨c1, c2, c3, c4⟩ := cells4_at vs i (by omega)
    obtain ⟨n1, n2⟩ := h3 i hi (by omega)
    simp only [e]
    refine ⟨⟨?_, ?_, ?_, ?_⟩, n2.keep hs fun r hp hr => ⟨by omega, fun j => b.cell (p := ⟨r, j, none⟩) hr⟩⟩
    · rw [n1] at c1; have := hcell _ _ c1; rwa [Lx.add_row] at this
    · have := hcell _ _ c2; rwa [Lx.add_row] at this
    · have := hcell _ _ c3; rwa [Lx.add_row] at this
    · have := hcell _ _ c4; rwa [Lx.add_row] at this

/-- Within the law: the grammar that rules are added to, and the table. -/
structure AdAt (V : World) (hb : Nat) (tx : ByteArray) (tv : Value) (tn : Nat) (tc : List Value) (A2 : Option Addr) (c2 : Nat) (acc : List Rul) (W : World) : Prop where
  hbx : W.heap[hb]? = some (.cells #[.string tx, .slice A2 acc.length c2] 25 (0, 0))
  items : VItems V W (.slice A2 acc.length c2) acc
  tab : W.ownsRow 0 39 3 tv tn tc
  sep : ∀ k, (Value.slice A2 acc.length c2).ownBlock = some k → k ≠ hb ∧ tv.ownBlock ≠ some k
  hbV : V.heap.size ≤ hb
  thb : ∀ k, tv.ownBlock = some k → k ≠ hb
  below : Below V.heap.size V W
section
variable {V W W' : World} {hb tn : Nat} {tx : ByteArray} {tv : Value} {tc : List Value} {A2 : Option Addr} {c2 : Nat} {acc : List Rul}
theorem AdAt.under (h : AdAt V hb tx tv tn tc A2 c2 acc W) (b : Below W.heap.size W W') : AdAt V hb tx tv tn tc A2 c2 acc W' :=
  ⟨(b.block _ (Gn.heap_lt h.hbx)).trans h.hbx, h.items.keep (fun g hg => b.block g (h.items.own_lt g hg).1), own_under h.tab b, h.sep, h.hbV, h.thb, h.below.trans (b.mono h.below.size)⟩
theorem AdAt.tell (h : AdAt V hb tx (.slice none 0 0) 0 [] A2 c2 acc W) (b : Below W.heap.size W W') (ht : W'.ownsRow W.heap.size 39 3 tv tn tc) : AdAt V hb tx tv tn tc A2 c2 acc W' := by
  have hq := fun k hk => Gn.own_block ht k hk
  have hl := Gn.heap_lt h.hbx
  have ho := h.items.own_lt
  exact ⟨(b.block _ hl).trans h.hbx, h.items.keep (fun g hg => b.block g (ho g hg).1), own_mono1 ht (Nat.zero_le _), fun k hk => ⟨(h.sep k hk).1, fun e => by have := hq k e; have := (ho k hk).1; omega⟩, h.hbV, fun k hk => by have := hq k hk; omega, h.below.trans (b.mono h.below.size)⟩
/-- Behind an append of a rule without a body, and its store. -/
theorem AdAt.snoc {w4 : World} {s : Nam} {o : Obj} {gq cp' : Nat} (h : AdAt V hb tx tv tn tc A2 c2 acc W)
    (hown4 : ∀ vs : List (Value × Value × Value × Value), W.ownsRow V.heap.size 65 4 (.slice A2 acc.length c2) acc.length (cells4 vs) → w4.ownsRow V.heap.size 65 4 (.slice (some ⟨gq, 0, none⟩) (acc.length + 1) cp') (acc.length + 1) (cells4 vs ++ [.string (Lx.mk s), .int .i64 3, .string ⟨#[]⟩, .slice none 0 0]))
    (hgr : (W.alloc o).grownBy w4 (Value.slice A2 acc.length c2).ownBlock) (hat : (Value.slice A2 acc.length c2).ownBlock = some gq ∨ gq = (W.alloc o).heap.size) :
    w4.heap[hb]? = some (.cells #[.string tx, .slice A2 acc.length c2] 25 (0, 0)) ∧ AdAt V hb tx tv tn tc (some ⟨gq, 0, none⟩) cp' (acc ++ [(s, .node 3 [] [])]) (w4.setCell ⟨hb, 1, none⟩ (.slice (some ⟨gq, 0, none⟩) (acc.length + 1) cp')) := by
  have hl := Gn.heap_lt h.hbx
  have ho := h.items.own_lt
  have hs := h.below.size
  have hbV := h.hbV
  have hit := h.items.snoc hown4
  have hsz : W.heap.size + 1 ≤ w4.heap.size := by have := hgr.size; simp at this; omega
  have keep : ∀ k, k < W.heap.size → (Value.slice A2 acc.length c2).ownBlock ≠ some k → w4.heap[k]? = W.heap[k]? := fun k hk hne => (hgr.block k (by simp; omega) (fun e => hne e.symm)).trans (heap_alloc_old W o hk)
  have hne : (Value.slice A2 acc.length c2).ownBlock ≠ some hb := fun e => (h.sep _ e).1 rfl
  have hb4 := (keep hb hl hne).trans h.hbx
  have hgq : gq ≠ hb ∧ tv.ownBlock ≠ some gq := by
    rcases hat with e | e
    · exact h.sep _ e
    · simp at e
      exact ⟨by omega, fun e2 => by have := Gn.own_lt h.tab _ e2; omega⟩
  have hlen : (acc ++ [((s, .node 3 [] []) : Rul)]).length = acc.length + 1 := by simp
  have h4 : Below V.heap.size V w4 := ⟨hgr.os.trans h.below.os, hgr.tape.trans h.below.tape, hgr.output.trans h.below.output, by omega, fun k hk => (keep k (by omega) (fun e => by have := (ho k e).2; omega)).trans (h.below.block k hk)⟩
  refine ⟨hb4, ?_, ?_, ?_, fun k hk => ?_, hbV, h.thb, h4.setCell hbV _⟩
  · have := Gn.heap_set hb4 1 (.slice (some ⟨gq, 0, none⟩) (acc.length + 1) cp')
    rw [hlen]
    exact this
  · rw [hlen]
    refine hit.keep fun g hg => Gn.set_keep _ 1 _ (fun e => ?_)
    have : g = gq := by simpa [Value.ownBlock] using hg.symm
    exact hgq.1 (this ▸ e.symm)
  · refine ⟨h.tab.1, ?_⟩
    rcases h.tab.2 with h2 | ⟨g, cp, cur, e, h3, h5, h6⟩
    · exact .inl h2
    · refine .inr ⟨g, cp, cur, e, h3, ?_, h6⟩
      have hob : tv.ownBlock = some g := by rw [e]; rfl
      have hgl := Gn.own_lt h.tab g hob
      exact (Gn.set_keep _ 1 _ (fun e2 => h.thb g hob e2.symm)).trans ((keep g hgl (fun e2 => (h.sep g e2).2 hob)).trans h5)
  · have : k = gq := by simpa [Value.ownBlock] using hk.symm
    rw [this]; exact hgq
theorem AdAt.start0 {P : Nat → Prop} {gq c : Nat} {rs : List Rul} {vs : List (Value × Value × Value × Value)} (hB : Below V.heap.size V W) (hbx : W.heap[hb]? = some (.cells #[.string tx, .slice (some ⟨gq, 0, none⟩) rs.length c] 25 (0, 0)))
    (hV : V.heap.size ≤ hb) (hne : gq ≠ hb) (hrow : W.ownsRow V.heap.size 65 4 (.slice (some ⟨gq, 0, none⟩) rs.length c) rs.length (cells4 vs)) (hvl : vs.length = rs.length)
    (hnd : ∀ (i : Nat) (hi : i < rs.length) (h2 : i < vs.length), vs[i].1 = .string (Lx.mk rs[i].1) ∧ Nd P V rs[i].2 vs[i].2.1 vs[i].2.2.1 vs[i].2.2.2) :
    AdAt V hb tx (.slice none 0 0) 0 [] (some ⟨gq, 0, none⟩) c rs W :=
  ⟨hbx, ⟨vs, hvl, hrow, fun i hi h2 => ⟨(hnd i hi h2).1, (hnd i hi h2).2.keep (Nat.le_refl _) fun r _ hr => ⟨hr, fun _ => rfl⟩⟩⟩, World.ownsRow_nil _ _ _ _, fun k hk => ⟨fun e => hne (((show k = gq by simpa [Value.ownBlock] using hk.symm)).symm.trans e), fun e => by simp [Value.ownBlock] at e⟩, hV, fun k hk => by simp [Value.ownBlock] at hk, hB⟩
theorem AdAt.start {P : Nat → Prop} {wz : World} {gq c : Nat} {rs : List Rul} {vs : List (Value × Value × Value × Value)} (hB : Below V.heap.size V wz) (hbx : wz.heap[hb]? = some (.cells #[.string ⟨#[]⟩, .slice none 0 0] 25 (0, 0)))
    (hV : V.heap.size ≤ hb) (hne : gq ≠ hb) (hrow : wz.ownsRow V.heap.size 65 4 (.slice (some ⟨gq, 0, none⟩) rs.length c) rs.length (cells4 vs)) (hvl : vs.length = rs.length)
    (hnd : ∀ (i : Nat) (hi : i < rs.length) (h2 : i < vs.length), vs[i].1 = .string (Lx.mk rs[i].1) ∧ Nd P V rs[i].2 vs[i].2.1 vs[i].2.2.1 vs[i].2.2.2) :
    AdAt V hb tx (.slice none 0 0) 0 [] (some ⟨gq, 0, none⟩) c rs ((wz.setCell ⟨hb, 0, none⟩ (.string tx)).setCell ⟨hb, 1, none⟩ (.slice (some ⟨gq, 0, none⟩) rs.length c)) := by
  have hk : ∀ k, hb ≠ k → ((wz.setCell ⟨hb, 0, none⟩ (.string tx)).setCell ⟨hb, 1, none⟩ (.slice (some ⟨gq, 0, none⟩) rs.length c)).heap[k]? = wz.heap[k]? := fun k h => (Gn.set_keep _ 1 _ h).trans (Gn.set_keep _ 0 _ h)
  refine ⟨Gn.heap_set (Gn.heap_set hbx 0 (.string tx)) 1 _, VItems.keep (W := wz) ⟨vs, hvl, hrow, fun i hi h2 => ⟨(hnd i hi h2).1, (hnd i hi h2).2.keep (Nat.le_refl _) fun r _ hr => ⟨hr, fun _ => rfl⟩⟩⟩ (fun g hg => hk g (fun e => ?_)), World.ownsRow_nil _ _ _ _, fun k hk => ⟨fun e => ?_, fun e => by simp [Value.ownBlock] at e⟩, hV, fun k hk => by simp [Value.ownBlock] at hk, (hB.setCell hV _).setCell hV _⟩
  · have : g = gq := by simpa [Value.ownBlock] using hg.symm
    exact hne (by rw [← this, e])
  · have : k = gq := by simpa [Value.ownBlock] using hk.symm
    exact hne (by rw [← this, e])
theorem own_empty4 {w : World} {base g : Nat} {T : TypeId} (h : w.heap[g]? = some (.cells #[] T (0, 0))) (hb : base ≤ g) : w.ownsRow base T 4 (.slice (some ⟨g, 0, none⟩) 0 0) 0 [] :=
  ⟨rfl, .inr ⟨g, 0, #[], rfl, hb, h, Nat.le_refl _, Nat.zero_le _, rfl, rfl⟩⟩
theorem heap_new (w : World) (o : Obj) (g : Nat) (hg : g = w.heap.size) : (w.alloc o).heap[g]? = some o := by subst hg; exact heap_alloc_new w o
theorem cells4_len (l : List (Value × Value × Value × Value)) : (cells4 l).length = l.length * 4 := by
  induction l with
  | nil => rfl
  | cons x l ih => rw [show cells4 (x :: l) = x.1 :: x.2.1 :: x.2.2.1 :: x.2.2.2 :: cells4 l from rfl]; simp only [List.length_cons, ih]; omega
theorem cellsS3 : ∀ (T : List Sy) (i : Nat) (h : i < T.length), (cellsS T)[i * 3]? = some (.string (Lx.mk T[i].1)) ∧ (cellsS T)[i * 3 + 1]? = some (.int .i64 T[i].2.1) ∧ (cellsS T)[i * 3 + 2]? = some (.int .i64 (T[i].2.2 : Int))
  | a :: r, 0, _ => ⟨rfl, rfl, rfl⟩
  | a :: r, i + 1, h => by
    obtain ⟨h1, h2, h3⟩ := cellsS3 r i (by simpa using h)
    have e : ∀ k, k < 3 → (cellsS (a :: r))[(i + 1) * 3 + k]? = (cellsS r)[i * 3 + k]? := fun k hk => by
      rw [show cellsS (a :: r) = syV a ++ cellsS r from rfl, List.getElem?_append_right (by rw [syV_len]; omega), syV_len, show (i + 1) * 3 + k - 3 = i * 3 + k by omega]
    exact ⟨(e 0 (by decide)).trans h1, (e 1 (by decide)).trans h2, (e 2 (by decide)).trans h3⟩
end
end Go.Proofs.Ytakihbjfkpebcaa.Sx
