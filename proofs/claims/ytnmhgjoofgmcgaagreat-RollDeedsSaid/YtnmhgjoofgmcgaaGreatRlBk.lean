/-
  Layer 18, pure: what was got is put again, byte by byte; a reader that fell stays so.
-/
import Derived.Test.YtnmhgjoofgmcgaaGreatRlBack
import Derived.Test.YtnmhgjoofgmcgaaGreatRlRp
namespace Go.Proofs.YtnmhgjoofgmcgaaGreat.Oct
open Go.RowKit
set_option maxRecDepth 100000
set_option linter.unusedSimpArgs false
set_option linter.unusedVariables false
theorem gb_back (s : List UInt8) (h : (gb s).2.2 = 0) : s = pb (gb s).1 ++ s.drop (gb s).2.1 := by
  cases s with
  | nil => exact absurd h (by decide)
  | cons c l =>
    have hle := gb_take_le _ h
    by_cases h1 : 7 < c.toNat % 128 ∨ c.toNat = 128
    · unfold gb at h; simp only at h; rw [if_pos h1] at h; exact absurd h (by decide)
    · by_cases h2 : l.length < c.toNat % 128
      · unfold gb at h; simp only at h; rw [if_neg h1, if_pos h2] at h; exact absurd h (by decide)
      · have hg := gb_by_pb c l h1 h2
        generalize (if 127 < c.toNat then -(Oct.val (l.take (c.toNat % 128)) : Int) else (Oct.val (l.take (c.toNat % 128)) : Int)) = v at hg
        by_cases hp : pb v = c :: l.take (c.toNat % 128)
        · rw [if_pos hp] at hg
          rw [hg] at hle ⊢
          simp only
          rw [hp, List.drop_succ_cons, List.cons_append, List.take_append_drop]
        · rw [if_neg hp] at hg
          rw [hg] at h
          exact absurd h (by decide)
theorem gb_num (s : List UInt8) : -9007199254740992 ≤ (gb s).1 ∧ (gb s).1 ≤ 9007199254740992 := by
  unfold gb
  split
  · simp
  · simp only
    split
    · simp
    · split
      · simp
      · split
        · simp
        · rename_i h
          simp only
          split <;> omega
theorem rInt_back {s l : List UInt8} {n : Int} (h : rInt (.ok s) = (n, .ok l)) : eInt n = some (pb n) ∧ s = pb n ++ l := by
  simp only [rInt] at h
  by_cases hz : (gb s).2.2 = 0
  · rw [if_pos hz] at h
    injection h with h1 h2
    injection h2 with h2
    subst h1 h2
    have h3 := gb_back s hz
    have h4 := gb_num s
    refine ⟨?_, h3⟩
    unfold eInt
    rw [if_neg (by unfold rng; omega)]
  · rw [if_neg hz] at h
    injection h with _ h2
    cases h2
theorem rLen_back {m : Int} {s l : List UInt8} {n : Int} (h : rLen m (.ok s) = (n, .ok l)) : 0 ≤ n ∧ n ≤ m ∧ eInt n = some (pb n) ∧ s = pb n ++ l := by
  unfold rLen at h
  split at h
  · injection h with _ h2; cases h2
  · rename_i n' l' he
    split at h
    · injection h with _ h2; cases h2
    · split at h
      · injection h with _ h2; cases h2
      · injection h with h1 h2
        injection h2 with h2
        subst h1 h2
        obtain ⟨a, b⟩ := rInt_back he
        exact ⟨by omega, by omega, a, b⟩
def qT (t : List UInt8) : List UInt8 := pb t.length ++ t
theorem rText_back {s l t : List UInt8} (h : rText (.ok s) = (t, .ok l)) : eText t = some (qT t) ∧ s = qT t ++ l := by
  unfold rText at h
  split at h
  · injection h with _ h2; cases h2
  · rename_i n l' he
    split at h
    · injection h with _ h2; cases h2
    · rename_i hlt
      injection h with h1 h2
      injection h2 with h2
      obtain ⟨a, b, c, d⟩ := rLen_back he
      have hl : t.length = n.toNat := by rw [← h1, List.length_take]; omega
      have hn : (t.length : Int) = n := by rw [hl]; omega
      unfold qT
      refine ⟨?_, ?_⟩
      · unfold eText eLen
        rw [hn, if_neg (by omega), c]
        rfl
      · rw [hn, d, ← h1, ← h2, List.append_assoc, List.take_append_drop]
theorem rStrs_back (s : List UInt8) : ∀ (k : Nat) (zs : List (List UInt8)) (l : List UInt8), rStrs (.ok s) k = (zs, .ok l) → s = (zs.map qT).flatten ++ l ∧ ∀ z ∈ zs, eText z = some (qT z)
  | 0, zs, l, h => by
    injection h with h1 h2
    injection h2 with h2
    subst h1 h2
    exact ⟨rfl, by simp⟩
  | k + 1, zs, l, h => by
    rw [rStrs] at h
    injection h with h1 h2
    cases hq : (rStrs (.ok s) k).2 with
    | error e =>
      rw [hq] at h2
      have h2 : (Except.error e : Rest) = .ok l := h2
      cases h2
    | ok l0 =>
      obtain ⟨a, b⟩ := rStrs_back s k (rStrs (.ok s) k).1 l0 (by rw [← hq])
      rw [hq] at h1 h2
      rcases ht : rText (.ok l0) with ⟨t, r1⟩
      rw [ht] at h1 h2
      simp only at h1 h2
      subst h2
      obtain ⟨c, d⟩ := rText_back ht
      rw [← h1, List.map_append, List.flatten_append]
      refine ⟨?_, fun z hz => ?_⟩
      · refine a.trans ?_
        rw [d]; simp
      · rcases List.mem_append.1 hz with hz | hz
        · exact b z hz
        · rw [List.mem_singleton] at hz; rw [hz]; exact c
theorem eStrs_all (ss : List ByteArray) (h : ∀ x ∈ ss, eText (bs x) = some (qT (bs x))) : ∀ k, k ≤ ss.length → eStrs ss k = some (((ss.take k).map fun x => qT (bs x)).flatten)
  | 0, _ => rfl
  | k + 1, hk => by
    have hg : ss.getD k ByteArray.empty = ss[k]'(by omega) := by simp [List.getD, List.getElem?_eq_getElem (show k < ss.length by omega)]
    rw [eStrs, eStrs_all ss h k (by omega), hg, h _ (List.getElem_mem _), List.take_succ_eq_append_getElem (by omega), List.map_append, List.flatten_append]
    simp [app]
theorem eTexts_all (ss : List ByteArray) (hl : ss.length ≤ 65536) (h : ∀ x ∈ ss, eText (bs x) = some (qT (bs x))) : eTexts ss = some (pb ss.length ++ (ss.map fun x => qT (bs x)).flatten) := by
  have := eStrs_all ss h ss.length (Nat.le_refl _)
  rw [List.take_length] at this
  unfold eTexts eLen eInt
  rw [if_neg (by omega), this, if_neg (by omega), if_neg (by unfold rng; omega)]
  rfl
/-- A list of texts that was read is what its bytes say. -/
theorem rTexts_back {s l : List UInt8} {zs : List (List UInt8)} (h : rTexts 256 (.ok s) = (zs, .ok l)) : s = pb zs.length ++ (zs.map qT).flatten ++ l ∧ zs.length ≤ 256 ∧ ∀ z ∈ zs, eText z = some (qT z) := by
  unfold rTexts at h
  rw [show min (256 : Int) 65536 = 256 by decide] at h
  rcases hq : rLen 256 (.ok s) with ⟨n, r1⟩
  rw [hq] at h
  simp only at h
  cases r1 with
  | error e =>
    have h0 : n = 0 := by have := rLen_err 256 (.ok s) e (by rw [hq]); rw [hq] at this; exact this
    subst h0
    injection h with h1 h2
    cases h2
  | ok l0 =>
    obtain ⟨a, b, c, d⟩ := rLen_back hq
    rcases hs : rStrs (.ok l0) n.toNat with ⟨zs', r2⟩
    rw [hs] at h
    cases r2 with
    | error e => injection h with h1 h2; cases h2
    | ok l1 =>
      injection h with h1 h2
      injection h2 with h2
      subst h1 h2
      obtain ⟨e, f⟩ := rStrs_back l0 n.toNat zs' l1 hs
      have hl : zs'.length = n.toNat := by have := rStrs_len (.ok l0) n.toNat; rw [hs] at this; exact this
      have hn : (zs'.length : Int) = n := by rw [hl]; omega
      exact ⟨by rw [hn, d, e, List.append_assoc], by omega, f⟩
/-- A reader's error is never 0. -/
def NZ (r : Rest) : Prop := r ≠ .error 0
theorem rInt_nz {r : Rest} (h : NZ r) : NZ (rInt r).2 := by
  cases r with
  | error e => exact h
  | ok l =>
    simp only [rInt]
    by_cases hz : (gb l).2.2 = 0
    · rw [if_pos hz]; exact fun h => by cases h
    · rw [if_neg hz]; exact fun h => by injection h with h; exact hz h
theorem rLen_nz (m : Int) {r : Rest} (h : NZ r) : NZ (rLen m r).2 := by
  have hi := rInt_nz h
  unfold rLen
  split
  · rename_i e; rw [e] at hi; exact hi
  · split
    · exact fun h => by injection h with h; cases h
    · split
      · exact fun h => by injection h with h; cases h
      · exact fun h => by cases h
theorem rText_nz {r : Rest} (h : NZ r) : NZ (rText r).2 := by
  have hi := rLen_nz 65536 h
  unfold rText
  split
  · rename_i e; rw [e] at hi; exact hi
  · split
    · exact fun h => by injection h with h; cases h
    · exact fun h => by cases h
theorem rStrs_nz {r : Rest} (h : NZ r) : ∀ k, NZ (rStrs r k).2
  | 0 => h
  | k + 1 => rText_nz (rStrs_nz h k)
theorem rTexts_nz (m : Int) {r : Rest} (h : NZ r) : NZ (rTexts m r).2 := by
  have hi := rStrs_nz (rLen_nz (min m 65536) h) (rLen (min m 65536) r).1.toNat
  unfold rTexts
  rcases hq : rStrs (rLen (min m 65536) r).2 (rLen (min m 65536) r).1.toNat with ⟨a, b⟩
  rw [hq] at hi
  cases b with
  | error e => exact hi
  | ok l => exact fun h => by cases h
end Go.Proofs.YtnmhgjoofgmcgaaGreat.Oct
namespace Go.Proofs.YtnmhgjoofgmcgaaGreat.Rl
open Oct (app eText eInt eTexts bs pb qT rInt rText rTexts rErr rEnd)
set_option maxRecDepth 100000
set_option linter.unusedSimpArgs false
set_option linter.unusedVariables false
theorem qText_is (x : ByteArray) : qText x = qT (bs x) := rfl
theorem bs_mkS (z : List UInt8) : bs (mkS z) = z := by simp [mkS, bs]
theorem rMs_back (s : List UInt8) : ∀ (k : Nat) (ms : List Mem) (l : List UInt8), rMs (.ok s) k = (ms, .ok l) → s = qMems ms ++ l ∧ ∀ m ∈ ms, pMem m = some (qMem m)
  | 0, ms, l, h => by
    injection h with h1 h2
    injection h2 with h2
    subst h1 h2
    exact ⟨rfl, by simp⟩
  | k + 1, ms, l, h => by
    rw [rMs, stepMs] at h
    injection h with h1 h2
    cases hq : (rMs (.ok s) k).2 with
    | error e =>
      rw [hq] at h2
      have h2 : (Except.error e : Oct.Rest) = .ok l := h2
      cases h2
    | ok l0 =>
      obtain ⟨a, b⟩ := rMs_back s k (rMs (.ok s) k).1 l0 (by rw [← hq])
      rw [hq] at h1 h2
      rcases ht : rText (.ok l0) with ⟨t, r1⟩
      rw [ht] at h1 h2
      simp only at h1 h2
      cases r1 with
      | error e =>
        have h2 : (Except.error e : Oct.Rest) = .ok l := h2
        cases h2
      | ok l1 =>
        rcases hi : rInt (.ok l1) with ⟨n, r2⟩
        rw [hi] at h1 h2
        simp only at h1 h2
        cases r2 with
        | error e =>
          have h2 : (Except.error e : Oct.Rest) = .ok l := h2
          cases h2
        | ok l2 =>
          rcases hj : rInt (.ok l2) with ⟨q, r3⟩
          rw [hj] at h1 h2
          simp only at h1 h2
          subst h2
          obtain ⟨c1, c2⟩ := Oct.rText_back ht
          obtain ⟨d1, d2⟩ := Oct.rInt_back hi
          obtain ⟨e1, e2⟩ := Oct.rInt_back hj
          have hm : qMem ⟨mkS t, n, q⟩ = qT t ++ pb n ++ pb q := by unfold qMem; rw [qText_is, bs_mkS]
          rw [← h1]
          refine ⟨?_, fun z hz => ?_⟩
          · unfold qMems
            rw [List.map_append, List.flatten_append, List.map_singleton, hm]
            unfold qMems at a
            refine a.trans ?_
            rw [c2, d2, e2]; simp
          · rcases List.mem_append.1 hz with hz | hz
            · exact b z hz
            · rw [List.mem_singleton] at hz
              rw [hz, hm]
              unfold pMem
              rw [bs_mkS, c1, d1, e1]
              simp [app]
theorem rCs_back (s : List UInt8) : ∀ (k : Nat) (cs : List Cls) (l : List UInt8), rCs (.ok s) k = (cs, .ok l) → s = qClss cs ++ l ∧ ∀ c ∈ cs, pCls c = some (qCls c)
  | 0, cs, l, h => by
    injection h with h1 h2
    injection h2 with h2
    subst h1 h2
    exact ⟨rfl, by simp⟩
  | k + 1, cs, l, h => by
    rw [rCs, stepCs] at h
    injection h with h1 h2
    cases hq : (rCs (.ok s) k).2 with
    | error e =>
      rw [hq] at h2
      have h2 : (Except.error e : Oct.Rest) = .ok l := h2
      cases h2
    | ok l0 =>
      obtain ⟨a, b⟩ := rCs_back s k (rCs (.ok s) k).1 l0 (by rw [← hq])
      rw [hq] at h1 h2
      rcases ht : rText (.ok l0) with ⟨t, r1⟩
      rw [ht] at h1 h2
      simp only at h1 h2
      cases r1 with
      | error e =>
        have h2 : (Except.error e : Oct.Rest) = .ok l := h2
        cases h2
      | ok l1 =>
        rcases hi : rText (.ok l1) with ⟨u, r2⟩
        rw [hi] at h1 h2
        simp only at h1 h2
        cases r2 with
        | error e =>
          have h2 : (Except.error e : Oct.Rest) = .ok l := h2
          cases h2
        | ok l2 =>
          rcases hj : rTexts 256 (.ok l2) with ⟨zs, r3⟩
          rw [hj] at h1 h2
          simp only at h1 h2
          subst h2
          obtain ⟨c1, c2⟩ := Oct.rText_back ht
          obtain ⟨d1, d2⟩ := Oct.rText_back hi
          obtain ⟨e1, e2, e3⟩ := Oct.rTexts_back hj
          have hfl : ((zs.map mkS).map fun x => qT (bs x)).flatten = (zs.map qT).flatten := by
            rw [List.map_map]
            exact congrArg List.flatten (List.map_congr_left fun z _ => by show qT (bs (mkS z)) = qT z; rw [bs_mkS])
          have hm : qCls ⟨mkS t, mkS u, zs.map mkS⟩ = qT t ++ qT u ++ pb zs.length ++ (zs.map qT).flatten := by
            unfold qCls qStrs
            rw [qText_is, qText_is, bs_mkS, bs_mkS, ← hfl, List.length_map]; rfl
          rw [← h1]
          refine ⟨?_, fun z hz => ?_⟩
          · unfold qClss
            rw [List.map_append, List.flatten_append, List.map_singleton, hm]
            unfold qClss at a
            refine a.trans ?_
            rw [c2, d2, e1]; simp
          · rcases List.mem_append.1 hz with hz | hz
            · exact b z hz
            · rw [List.mem_singleton] at hz
              rw [hz, hm]
              unfold pCls
              rw [bs_mkS, bs_mkS, c1, d1, Oct.eTexts_all (zs.map mkS) (by rw [List.length_map]; omega) (fun x hx => by
                obtain ⟨z, hz, rfl⟩ := List.mem_map.1 hx
                rw [bs_mkS]; exact e3 z hz), hfl, List.length_map]
              simp [app]
theorem pMems_all (ms : List Mem) (h : ∀ m ∈ ms, pMem m = some (qMem m)) : ∀ k, k ≤ ms.length → pMems ms k = some (qMems (ms.take k))
  | 0, _ => rfl
  | k + 1, hk => by
    have hg : ms.getD k ⟨⟨#[]⟩, 0, 0⟩ = ms[k]'(by omega) := by simp [List.getD, List.getElem?_eq_getElem (show k < ms.length by omega)]
    rw [pMems, pMems_all ms h k (by omega), hg, h _ (List.getElem_mem _)]
    unfold qMems
    rw [List.take_succ_eq_append_getElem (by omega), List.map_append, List.flatten_append]
    simp [app]
theorem pClss_all (cs : List Cls) (h : ∀ m ∈ cs, pCls m = some (qCls m)) : ∀ k, k ≤ cs.length → pClss cs k = some (qClss (cs.take k))
  | 0, _ => rfl
  | k + 1, hk => by
    have hg : cs.getD k ⟨⟨#[]⟩, ⟨#[]⟩, []⟩ = cs[k]'(by omega) := by simp [List.getD, List.getElem?_eq_getElem (show k < cs.length by omega)]
    rw [pClss, pClss_all cs h k (by omega), hg, h _ (List.getElem_mem _)]
    unfold qClss
    rw [List.take_succ_eq_append_getElem (by omega), List.map_append, List.flatten_append]
    simp [app]
theorem put_all (r : Rol) (h1 : r.ms.length ≤ 65536) (h2 : r.cs.length ≤ 65536) (hm : ∀ m ∈ r.ms, pMem m = some (qMem m)) (hc : ∀ c ∈ r.cs, pCls c = some (qCls c)) : putR r = some (qPut r) := by
  have a := pMems_all r.ms hm r.ms.length (Nat.le_refl _)
  have b := pClss_all r.cs hc r.cs.length (Nat.le_refl _)
  rw [List.take_length] at a b
  unfold putR eInt
  rw [a, b, if_neg (by unfold Oct.rng; omega), if_neg (by unfold Oct.rng; omega)]
  unfold qPut
  simp [app]
theorem rMs_stuck (r : Oct.Rest) (k j : Nat) (e : Nat) (h : (rMs r k).2 = .error e) : (rMs r (k + j)).2 = .error e := by
  induction j with
  | zero => exact h
  | succ j ih =>
    show (stepMs (rMs r (k + j))).2 = _
    unfold stepMs
    rw [ih]; rfl
theorem rCs_stuck (r : Oct.Rest) (k j : Nat) (e : Nat) (h : (rCs r k).2 = .error e) : (rCs r (k + j)).2 = .error e := by
  induction j with
  | zero => exact h
  | succ j ih =>
    show (stepCs (rCs r (k + j))).2 = _
    unfold stepCs
    rw [ih]; rfl
theorem rMs_nz {r : Oct.Rest} (h : Oct.NZ r) : ∀ k, Oct.NZ (rMs r k).2
  | 0 => h
  | k + 1 => Oct.rInt_nz (Oct.rInt_nz (Oct.rText_nz (rMs_nz h k)))
theorem rCs_nz {r : Oct.Rest} (h : Oct.NZ r) : ∀ k, Oct.NZ (rCs r k).2
  | 0 => h
  | k + 1 => Oct.rTexts_nz 256 (Oct.rText_nz (Oct.rText_nz (rCs_nz h k)))
/-- What was got: it is put as the very bytes; and its sizes. -/
theorem get_back {s : List UInt8} {r : Rol} (h : getR s = .ok r) : putR r = some s ∧ qPut r = s ∧ okR r = true ∧ r.ms.length ≤ 256 ∧ r.cs.length ≤ 32 ∧ ∀ c ∈ r.cs, c.studs.length ≤ 4096 := by
  unfold getR at h
  rcases hq : rInt (.ok s) with ⟨n, r1⟩
  rw [hq] at h
  unfold getM9 at h
  simp only at h
  by_cases hn : n < 0 ∨ 256 < n
  · rw [if_pos hn] at h; cases h
  · rw [if_neg hn] at h
    rcases hm : rMs r1 n.toNat with ⟨ms, r2⟩
    rw [hm] at h
    simp only at h
    rcases hi : rInt r2 with ⟨m, r3⟩
    rw [hi] at h
    unfold getC9 at h
    simp only at h
    by_cases hc : m < 0 ∨ 32 < m
    · rw [if_pos hc] at h; cases h
    · rw [if_neg hc] at h
      rcases hk : rCs r3 m.toNat with ⟨cs, r4⟩
      rw [hk] at h
      unfold getD9 at h
      simp only at h
      split at h
      · cases h
      · rename_i he
        split at h
        · cases h
        · rename_i ho
          split at h
          · cases h
          · rename_i hd
            injection h with h
            subst h
            have hd0 : rEnd r4 = 0 := by omega
            have z1 : Oct.NZ r1 := by have := Oct.rInt_nz (r := .ok s) (fun h => by cases h); rw [hq] at this; exact this
            have z2 : Oct.NZ r2 := by have := rMs_nz z1 n.toNat; rw [hm] at this; exact this
            have z3 : Oct.NZ r3 := by have := Oct.rInt_nz z2; rw [hi] at this; exact this
            have z4 : Oct.NZ r4 := by have := rCs_nz z3 m.toNat; rw [hk] at this; exact this
            have h4 : r4 = .ok [] := by
              cases r4 with
              | error e =>
                have he0 : e = 0 := hd0
                rw [he0] at z4
                exact absurd rfl z4
              | ok l => cases l with
                | nil => rfl
                | cons c l => exact absurd hd0 (show ¬ (4 : Nat) = 0 by decide)
            subst h4
            cases r3 with
            | error e =>
              have := rCs_stuck (.error e) 0 m.toNat e rfl
              rw [Nat.zero_add, hk] at this
              cases this
            | ok l3 =>
              cases r2 with
              | error e => injection hi with _ h9; cases h9
              | ok l2 =>
                cases r1 with
                | error e =>
                  have := rMs_stuck (.error e) 0 n.toNat e rfl
                  rw [Nat.zero_add, hm] at this
                  cases this
                | ok l1 =>
                  obtain ⟨a1, a2⟩ := Oct.rInt_back hq
                  obtain ⟨b1, b2⟩ := rMs_back l1 n.toNat ms l2 hm
                  obtain ⟨c1, c2⟩ := Oct.rInt_back hi
                  obtain ⟨d1, d2⟩ := rCs_back l3 m.toNat cs [] hk
                  have e1 : ms.length = n.toNat := by have := rMs_len (.ok l1) n.toNat; rw [hm] at this; exact this
                  have e2 : cs.length = m.toNat := by have := rCs_len (.ok l3) m.toNat; rw [hk] at this; exact this
                  have hs : qPut ⟨ms, cs⟩ = s := by
                    unfold qPut
                    simp only
                    rw [show (ms.length : Int) = n by omega, show (cs.length : Int) = m by omega, a2, b1, c2, d1]; simp
                  have ho2 : okR ⟨ms, cs⟩ = true := by
                    cases hx : okR ⟨ms, cs⟩ with
                    | true => rfl
                    | false => exact absurd hx ho
                  refine ⟨?_, hs, ho2, by show ms.length ≤ 256; omega, by show cs.length ≤ 32; omega, fun c hc => ?_⟩
                  · rw [put_all ⟨ms, cs⟩ (by show ms.length ≤ 65536; omega) (by show cs.length ≤ 65536; omega) b2 d2, hs]
                  · have := (rCs_size (.ok l3) m.toNat c (by rw [hk]; exact hc)).2
                    exact this
end Go.Proofs.YtnmhgjoofgmcgaaGreat.Rl
