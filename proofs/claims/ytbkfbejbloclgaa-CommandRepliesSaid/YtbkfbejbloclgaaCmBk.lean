/-
  Layer 21: what was put is got again, and what was got is what was put (plain words).
-/
import Derived.Test.YtbkfbejbloclgaaCmE
import Derived.Test.YtbkfbejbloclgaaCmG
namespace Go.Proofs.Ytbkfbejbloclgaa.Oct
open Go.RowKit
set_option maxRecDepth 100000
set_option linter.unusedSimpArgs false
set_option linter.unusedVariables false
theorem rInt_of (n : Int) (R : List UInt8) (h : ¬ rng n) : rInt (.ok (pb n ++ R)) = (n, .ok R) := by
  have hg := gb_pb n R h
  simp only [rInt, hg]
  rw [if_pos trivial, List.drop_left]
theorem eInt_some {n : Int} {l : List UInt8} (h : eInt n = some l) : ¬ rng n ∧ l = pb n := by
  unfold eInt at h
  split at h
  · cases h
  · rename_i hr
    injection h with h
    exact ⟨hr, h.symm⟩
theorem rLen_of (n : Nat) (m : Int) (R : List UInt8) (hn : n ≤ 65536) (hm : (n : Int) ≤ m) : rLen m (.ok (pb n ++ R)) = ((n : Int), .ok R) := by
  have hr : ¬ rng (n : Int) := by unfold rng; omega
  rw [rLen, rInt_of _ R hr]
  show (if (n : Int) < 0 then _ else if m < (n : Int) then _ else _) = _
  rw [if_neg (by omega), if_neg (by omega)]
theorem eLen_some {n : Nat} {l : List UInt8} (h : eLen (n : Int) = some l) : n ≤ 65536 ∧ l = pb n := by
  unfold eLen at h
  split at h
  · cases h
  · exact ⟨by omega, (eInt_some h).2⟩
theorem app_some {a b : Option (List UInt8)} {l : List UInt8} (h : app a b = some l) : ∃ x y, a = some x ∧ b = some y ∧ l = x ++ y := by
  cases a with
  | none => simp [app] at h
  | some x =>
    cases b with
    | none => simp [app] at h
    | some y =>
      simp only [app] at h
      injection h with h
      exact ⟨x, y, rfl, rfl, h.symm⟩
theorem rText_of (l e R : List UInt8) (h : eText l = some e) : rText (.ok (e ++ R)) = (l, .ok R) := by
  obtain ⟨x, y, h1, h2, h3⟩ := app_some h
  injection h2 with h2
  subst h2
  obtain ⟨h4, h5⟩ := eLen_some h1
  subst h5 h3
  rw [rText, List.append_assoc, rLen_of l.length 65536 (l ++ R) h4 (by omega)]
  show (if ((l ++ R).length : Int) < (l.length : Int) then _ else _) = _
  rw [if_neg (by rw [List.length_append]; omega), Int.toNat_natCast, List.take_left, List.drop_left]
theorem rStrs_of (ss : List ByteArray) (k : Nat) (hk : k ≤ ss.length) (e R : List UInt8) (h : eStrs ss k = some e) : rStrs (.ok (e ++ R)) k = ((ss.take k).map bs, .ok R) := by
  induction k generalizing e R with
  | zero => simp only [eStrs] at h; injection h with h; subst h; rfl
  | succ k ih =>
    obtain ⟨x, y, h1, h2, h3⟩ := app_some h
    subst h3
    rw [rStrs, List.append_assoc, ih (by omega) x _ h1]
    simp only
    have hg : ss.getD k ByteArray.empty = ss[k]'(by omega) := by simp [List.getD, List.getElem?_eq_getElem (show k < ss.length by omega)]
    rw [rText_of _ y R h2, hg, List.take_succ_eq_append_getElem (show k < ss.length by omega), List.map_append]
    rfl
theorem rTexts_of (ss : List ByteArray) (e R : List UInt8) (h : eTexts ss = some e) (m : Int) (hm : (ss.length : Int) ≤ m) : rTexts m (.ok (e ++ R)) = (ss.map bs, .ok R) := by
  unfold eTexts at h
  split at h
  · cases h
  · obtain ⟨x, y, h1, h2, h3⟩ := app_some h
    obtain ⟨h4, h5⟩ := eLen_some h1
    subst h3 h5
    rw [rTexts, List.append_assoc, rLen_of ss.length (min m 65536) _ h4 (by omega), Int.toNat_natCast, rStrs_of ss ss.length (Nat.le_refl _) y R h2, List.take_length]
    rfl

theorem gb_back (s : List UInt8) (h : (gb s).2.2 = 0) : s = pb (gb s).1 ++ s.drop (gb s).2.1 := by
  cases s with
  | nil => exact absurd h (by decide)
  | cons c l =>
    have hle := gb_take_le _ h
    by_cases h1 : 7 < c.toNat % 128 ∨ c.toNat = 128
    · unfold gb at h; simp only at h; rw [if_pos h1] at h; exact absurd h (by decide)
    · by_cases h2 : l.length < c.toNat % 128
      · unfold gb at h; simp only at h; rw [if_neg h1, if_pos h2] at h; exact absurd h (by decide)
      · have hg := gb_by_pb c l h1 h2
        generalize (if 127 < c.toNat then -(Oct.val (l.take (c.toNat % 128)) : Int) else (Oct.val (l.take (c.toNat % 128)) : Int)) = v at hg
        by_cases hp : pb v = c :: l.take (c.toNat % 128)
        · rw [if_pos hp] at hg
          rw [hg] at hle ⊢
          simp only
          rw [hp, List.drop_succ_cons, List.cons_append, List.take_append_drop]
        · rw [if_neg hp] at hg
          rw [hg] at h
          exact absurd h (by decide)
theorem gb_num (s : List UInt8) : -9007199254740992 ≤ (gb s).1 ∧ (gb s).1 ≤ 9007199254740992 := by
  unfold gb
  split
  · simp
  · simp only
    split
    · simp
    · split
      · simp
      · split
        · simp
        · rename_i h
          simp only
          split <;> omega
theorem rInt_back {s l : List UInt8} {n : Int} (h : rInt (.ok s) = (n, .ok l)) : eInt n = some (pb n) ∧ s = pb n ++ l := by
  simp only [rInt] at h
  by_cases hz : (gb s).2.2 = 0
  · rw [if_pos hz] at h
    injection h with h1 h2
    injection h2 with h2
    subst h1 h2
    have h3 := gb_back s hz
    have h4 := gb_num s
    refine ⟨?_, h3⟩
    unfold eInt
    rw [if_neg (by unfold rng; omega)]
  · rw [if_neg hz] at h
    injection h with _ h2
    cases h2
theorem rLen_back {m : Int} {s l : List UInt8} {n : Int} (h : rLen m (.ok s) = (n, .ok l)) : 0 ≤ n ∧ n ≤ m ∧ eInt n = some (pb n) ∧ s = pb n ++ l := by
  unfold rLen at h
  split at h
  · injection h with _ h2; cases h2
  · rename_i n' l' he
    split at h
    · injection h with _ h2; cases h2
    · split at h
      · injection h with _ h2; cases h2
      · injection h with h1 h2
        injection h2 with h2
        subst h1 h2
        obtain ⟨a, b⟩ := rInt_back he
        exact ⟨by omega, by omega, a, b⟩
def qT (t : List UInt8) : List UInt8 := pb t.length ++ t
theorem rText_back {s l t : List UInt8} (h : rText (.ok s) = (t, .ok l)) : eText t = some (qT t) ∧ s = qT t ++ l := by
  unfold rText at h
  split at h
  · injection h with _ h2; cases h2
  · rename_i n l' he
    split at h
    · injection h with _ h2; cases h2
    · rename_i hlt
      injection h with h1 h2
      injection h2 with h2
      obtain ⟨a, b, c, d⟩ := rLen_back he
      have hl : t.length = n.toNat := by rw [← h1, List.length_take]; omega
      have hn : (t.length : Int) = n := by rw [hl]; omega
      unfold qT
      refine ⟨?_, ?_⟩
      · unfold eText eLen
        rw [hn, if_neg (by omega), c]
        rfl
      · rw [hn, d, ← h1, ← h2, List.append_assoc, List.take_append_drop]
theorem rStrs_back (s : List UInt8) : ∀ (k : Nat) (zs : List (List UInt8)) (l : List UInt8), rStrs (.ok s) k = (zs, .ok l) → s = (zs.map qT).flatten ++ l ∧ ∀ z ∈ zs, eText z = some (qT z)
  | 0, zs, l, h => by
    injection h with h1 h2
    injection h2 with h2
    subst h1 h2
    exact ⟨rfl, by simp⟩
  | k + 1, zs, l, h => by
    rw [rStrs] at h
    injection h with h1 h2
    cases hq : (rStrs (.ok s) k).2 with
    | error e =>
      rw [hq] at h2
      have h2 : (Except.error e : Rest) = .ok l := h2
      cases h2
    | ok l0 =>
      obtain ⟨a, b⟩ := rStrs_back s k (rStrs (.ok s) k).1 l0 (by rw [← hq])
      rw [hq] at h1 h2
      rcases ht : rText (.ok l0) with ⟨t, r1⟩
      rw [ht] at h1 h2
      simp only at h1 h2
      subst h2
      obtain ⟨c, d⟩ := rText_back ht
      rw [← h1, List.map_append, List.flatten_append]
      refine ⟨?_, fun z hz => ?_⟩
      · refine a.trans ?_
        rw [d]; simp
      · rcases List.mem_append.1 hz with hz | hz
        · exact b z hz
        · rw [List.mem_singleton] at hz; rw [hz]; exact c
theorem eStrs_all (ss : List ByteArray) (h : ∀ x ∈ ss, eText (bs x) = some (qT (bs x))) : ∀ k, k ≤ ss.length → eStrs ss k = some (((ss.take k).map fun x => qT (bs x)).flatten)
  | 0, _ => rfl
  | k + 1, hk => by
    have hg : ss.getD k ByteArray.empty = ss[k]'(by omega) := by simp [List.getD, List.getElem?_eq_getElem (show k < ss.length by omega)]
    rw [eStrs, eStrs_all ss h k (by omega), hg, h _ (List.getElem_mem _), List.take_succ_eq_append_getElem (by omega), List.map_append, List.flatten_append]
    simp [app]
theorem eTexts_all (ss : List ByteArray) (hl : ss.length ≤ 65536) (h : ∀ x ∈ ss, eText (bs x) = some (qT (bs x))) : eTexts ss = some (pb ss.length ++ (ss.map fun x => qT (bs x)).flatten) := by
  have := eStrs_all ss h ss.length (Nat.le_refl _)
  rw [List.take_length] at this
  unfold eTexts eLen eInt
  rw [if_neg (by omega), this, if_neg (by omega), if_neg (by unfold rng; omega)]
  rfl
/-- A list of texts that was read is what its bytes say. -/
theorem rTexts_back {m : Int} (hm : m ≤ 65536) {s l : List UInt8} {zs : List (List UInt8)} (h : rTexts m (.ok s) = (zs, .ok l)) : s = pb zs.length ++ (zs.map qT).flatten ++ l ∧ (zs.length : Int) ≤ m ∧ ∀ z ∈ zs, eText z = some (qT z) := by
  unfold rTexts at h
  rw [show min m 65536 = m from Int.min_eq_left hm] at h
  rcases hq : rLen m (.ok s) with ⟨n, r1⟩
  rw [hq] at h
  simp only at h
  cases r1 with
  | error e =>
    have h0 : n = 0 := by have := rLen_err m (.ok s) e (by rw [hq]); rw [hq] at this; exact this
    subst h0
    injection h with h1 h2
    cases h2
  | ok l0 =>
    obtain ⟨a, b, c, d⟩ := rLen_back hq
    rcases hs : rStrs (.ok l0) n.toNat with ⟨zs', r2⟩
    rw [hs] at h
    cases r2 with
    | error e => injection h with h1 h2; cases h2
    | ok l1 =>
      injection h with h1 h2
      injection h2 with h2
      subst h1 h2
      obtain ⟨e, f⟩ := rStrs_back l0 n.toNat zs' l1 hs
      have hl : zs'.length = n.toNat := by have := rStrs_len (.ok l0) n.toNat; rw [hs] at this; exact this
      have hn : (zs'.length : Int) = n := by rw [hl]; omega
      exact ⟨by rw [hn, d, e, List.append_assoc], by omega, f⟩

theorem rInt_ok {r : Rest} {n : Int} {l : List UInt8} (h : rInt r = (n, .ok l)) : ∃ k, r = .ok k := by
  cases r with
  | error e => injection h with _ h2; cases h2
  | ok k => exact ⟨k, rfl⟩
theorem rText_ok {r : Rest} {t : List UInt8} {l : List UInt8} (h : rText r = (t, .ok l)) : ∃ k, r = .ok k := by
  cases r with
  | error e => injection h with _ h2; cases h2
  | ok k => exact ⟨k, rfl⟩
theorem rTexts_ok {m : Int} {r : Rest} {t : List (List UInt8)} {l : List UInt8} (h : rTexts m r = (t, .ok l)) : ∃ k, r = .ok k := by
  cases r with
  | error e => injection h with _ h2; cases h2
  | ok k => exact ⟨k, rfl⟩
/-- A reader's error is never 0. -/
def NZ (r : Rest) : Prop := r ≠ .error 0
theorem rInt_nz {r : Rest} (h : NZ r) : NZ (rInt r).2 := by
  cases r with
  | error e => exact h
  | ok l =>
    simp only [rInt]
    by_cases hz : (gb l).2.2 = 0
    · rw [if_pos hz]; exact fun h => by cases h
    · rw [if_neg hz]; exact fun h => by injection h with h; exact hz h
theorem rLen_nz (m : Int) {r : Rest} (h : NZ r) : NZ (rLen m r).2 := by
  have hi := rInt_nz h
  unfold rLen
  split
  · rename_i e; rw [e] at hi; exact hi
  · split
    · exact fun h => by injection h with h; cases h
    · split
      · exact fun h => by injection h with h; cases h
      · exact fun h => by cases h
theorem rText_nz {r : Rest} (h : NZ r) : NZ (rText r).2 := by
  have hi := rLen_nz 65536 h
  unfold rText
  split
  · rename_i e; rw [e] at hi; exact hi
  · split
    · exact fun h => by injection h with h; cases h
    · exact fun h => by cases h
theorem rStrs_nz {r : Rest} (h : NZ r) : ∀ k, NZ (rStrs r k).2
  | 0 => h
  | k + 1 => rText_nz (rStrs_nz h k)
theorem rTexts_nz (m : Int) {r : Rest} (h : NZ r) : NZ (rTexts m r).2 := by
  have hi := rStrs_nz (rLen_nz (min m 65536) h) (rLen (min m 65536) r).1.toNat
  unfold rTexts
  rcases hq : rStrs (rLen (min m 65536) r).2 (rLen (min m 65536) r).1.toNat with ⟨a, b⟩
  rw [hq] at hi
  cases b with
  | error e => exact hi
  | ok l => exact fun h => by cases h
end Go.Proofs.Ytbkfbejbloclgaa.Oct
namespace Go.Proofs.Ytbkfbejbloclgaa.Cm
open Go.RowKit
open Oct (pb bs Strs rInt rText rTexts rErr rEnd At Sep Gives strV eText eTexts eInt)
open Lx (goodB)
set_option maxRecDepth 100000
set_option linter.unusedSimpArgs false
set_option linter.unusedVariables false
theorem mkS_bs (x : ByteArray) : mkS (bs x) = x := by cases x; rfl
theorem bs_mkS (l : List UInt8) : bs (mkS l) = l := by unfold mkS; simp [bs]
theorem map_mkS (ss : List ByteArray) : (ss.map bs).map mkS = ss := by
  rw [List.map_map]
  conv => rhs; rw [← List.map_id ss]
  exact List.map_congr_left fun x _ => mkS_bs x
theorem notFar {n : Int} (h : farB n = false) : ¬ Oct.rng n := by
  unfold farB at h
  unfold Oct.rng
  simpa using h
theorem rNums4 (a b c d : Int) (R : List UInt8) (ha : farB a = false) (hb : farB b = false) (hc : farB c = false) (hd : farB d = false) : rNums (.ok (pb a ++ (pb b ++ (pb c ++ (pb d ++ R))))) 4 = ([a, b, c, d], .ok R) := by
  simp only [rNums, Oct.rInt_of _ _ (notFar ha), Oct.rInt_of _ _ (notFar hb), Oct.rInt_of _ _ (notFar hc), Oct.rInt_of _ _ (notFar hd), List.nil_append, List.cons_append]
theorem readC_put (c : Cmd) (h : GoodC c) (R : List UInt8) : readC (.ok (qCmd c ++ R)) = (c, .ok R) := by
  unfold qCmd
  simp only [List.append_assoc]
  unfold readC
  rw [Oct.rInt_of _ _ (by have := h.kind; unfold Oct.rng; omega)]
  dsimp only
  rw [Oct.rText_of _ _ _ (eText_some c.who (by have := goodB_size h.who; omega))]
  dsimp only
  rw [Oct.rText_of _ _ _ (eText_some c.nm (by have := maybeB_size h.nm; omega))]
  dsimp only
  rw [Oct.rText_of _ _ _ (eText_some c.oth (by have := maybeB_size h.oth; omega))]
  dsimp only
  rw [Oct.rText_of _ _ _ (eText_some c.txt h.txt)]
  dsimp only
  rw [Oct.rTexts_of c.word _ _ (eTexts_some c.word (by have := h.len; omega) (fun s hs => by have := h.word s hs; omega)) 64 (by have := h.len; omega)]
  dsimp only
  rw [rNums4 _ _ _ _ R h.n0 h.n1 h.n2 h.n3]
  simp only [mkS_bs, map_mkS, List.getD_cons_zero, List.getD_cons_succ]
theorem get_put (c : Cmd) (h : goodC c = true) : getC (qCmd c) = (c, 0) := by
  have hr := readC_put c ((goodC_iff c).1 h) []
  rw [List.append_nil] at hr
  unfold getC
  rw [hr]
  dsimp only
  rw [h]
  rfl
theorem put_inj (a b : Cmd) (ha : goodC a = true) (hb : goodC b = true) (h : qCmd a = qCmd b) : a = b := by
  have h1 := get_put a ha
  have h2 := get_put b hb
  rw [h, h2] at h1
  exact (congrArg Prod.fst h1).symm
theorem rNums_ok {r : Oct.Rest} {k : Nat} {t : List Int} {l : List UInt8} (h : rNums r k = (t, .ok l)) : ∃ x, r = .ok x := by
  induction k generalizing t l with
  | zero => injection h with h1 h2; exact ⟨l, h2⟩
  | succ k ih =>
    rw [rNums] at h
    injection h with h1 h2
    rcases hq : rInt (rNums r k).2 with ⟨n, r2⟩
    rw [hq] at h2
    dsimp only at h2
    subst h2
    obtain ⟨x, hx⟩ := Oct.rInt_ok hq
    exact ih (t := (rNums r k).1) (l := x) (by rw [← hx])
theorem rNums_back (s : List UInt8) : ∀ (k : Nat) (ns : List Int) (l : List UInt8), rNums (.ok s) k = (ns, .ok l) → s = (ns.map pb).flatten ++ l
  | 0, ns, l, h => by
    injection h with h1 h2
    injection h2 with h2
    subst h1 h2
    rfl
  | k + 1, ns, l, h => by
    rw [rNums] at h
    injection h with h1 h2
    rcases hq : rInt (rNums (.ok s) k).2 with ⟨n, r2⟩
    rw [hq] at h1 h2
    dsimp only at h1 h2
    subst h2
    obtain ⟨x, hx⟩ := Oct.rInt_ok hq
    rw [hx] at hq
    have hb := rNums_back s k (rNums (.ok s) k).1 x (by rw [← hx])
    obtain ⟨_, e2⟩ := Oct.rInt_back hq
    refine hb.trans ?_
    rw [← h1, e2]
    simp
theorem readC_back (l : List UInt8) (c : Cmd) (h : readC (.ok l) = (c, .ok [])) : l = qCmd c := by
  unfold readC at h
  obtain ⟨k0, r1, e0⟩ : ∃ k r, rInt (.ok l) = (k, r) := ⟨_, _, rfl⟩
  obtain ⟨t1, r2, e1⟩ : ∃ k r, rText r1 = (k, r) := ⟨_, _, rfl⟩
  obtain ⟨t2, r3, e2⟩ : ∃ k r, rText r2 = (k, r) := ⟨_, _, rfl⟩
  obtain ⟨t3, r4, e3⟩ : ∃ k r, rText r3 = (k, r) := ⟨_, _, rfl⟩
  obtain ⟨t4, r5, e4⟩ : ∃ k r, rText r4 = (k, r) := ⟨_, _, rfl⟩
  obtain ⟨zs, r6, e5⟩ : ∃ k r, rTexts 64 r5 = (k, r) := ⟨_, _, rfl⟩
  obtain ⟨ns, r7, e6⟩ : ∃ k r, rNums r6 4 = (k, r) := ⟨_, _, rfl⟩
  rw [e0] at h
  dsimp only at h
  rw [e1] at h
  dsimp only at h
  rw [e2] at h
  dsimp only at h
  rw [e3] at h
  dsimp only at h
  rw [e4] at h
  dsimp only at h
  rw [e5] at h
  dsimp only at h
  rw [e6] at h
  dsimp only at h
  injection h with h1 h2
  subst h2
  obtain ⟨x6, rfl⟩ := rNums_ok e6
  obtain ⟨x5, rfl⟩ := Oct.rTexts_ok e5
  obtain ⟨x4, rfl⟩ := Oct.rText_ok e4
  obtain ⟨x3, rfl⟩ := Oct.rText_ok e3
  obtain ⟨x2, rfl⟩ := Oct.rText_ok e2
  obtain ⟨x1, rfl⟩ := Oct.rText_ok e1
  have a0 := (Oct.rInt_back e0).2
  have a1 := (Oct.rText_back e1).2
  have a2 := (Oct.rText_back e2).2
  have a3 := (Oct.rText_back e3).2
  have a4 := (Oct.rText_back e4).2
  have a5 := (Oct.rTexts_back (by decide) e5).1
  have a6 := rNums_back _ _ _ _ e6
  have hl := rNums_len (.ok x6) 4
  rw [e6] at hl
  dsimp only at hl
  match ns, hl with
  | [m0, m1, m2, m3], _ =>
    rw [← h1, a0, a1, a2, a3, a4, a5, a6]
    unfold qCmd qTexts qStrs
    have hq : ∀ t : List UInt8, qText (mkS t) = Oct.qT t := fun t => by unfold qText Oct.qT; rw [bs_mkS, mkS_size]
    simp only [hq, List.length_map, List.map_map, List.append_assoc, List.getD_cons_zero, List.getD_cons_succ]
    have hm : zs.map (qText ∘ mkS) = zs.map Oct.qT := List.map_congr_left fun t _ => hq t
    rw [hm]
    simp
theorem rNums_nz {r : Oct.Rest} (h : Oct.NZ r) : ∀ k, Oct.NZ (rNums r k).2
  | 0 => h
  | k + 1 => Oct.rInt_nz (rNums_nz h k)
theorem readC_nz (l : List UInt8) (c : Cmd) : ¬ readC (.ok l) = (c, .error 0) := by
  intro h
  have h0 : Oct.NZ (.ok l) := fun h => by cases h
  have h1 : Oct.NZ (readC (.ok l)).2 := rNums_nz (Oct.rTexts_nz 64 (Oct.rText_nz (Oct.rText_nz (Oct.rText_nz (Oct.rText_nz (Oct.rInt_nz h0)))))) 4
  rw [h] at h1
  exact h1 rfl
theorem put_get (l : List UInt8) (c : Cmd) (h : getC l = (c, 0)) : goodC c = true ∧ qCmd c = l := by
  unfold getC at h
  rcases hr : readC (.ok l) with ⟨c1, r⟩
  rw [hr] at h
  dsimp only at h
  split at h
  · rename_i he
    injection h with h1 _
    subst h1
    cases r with
    | error e =>
      have he : e = 0 := he
      subst he
      exfalso
      exact absurd hr (readC_nz l c1)
    | ok k =>
      cases hg : goodC c1 with
      | false => rw [hg] at he; have he : (2 : Nat) = 0 := he; cases he
      | true =>
        rw [hg] at he
        cases k with
        | cons x k => have he : (4 : Nat) = 0 := he; cases he
        | nil => exact ⟨rfl, (readC_back l c1 hr).symm⟩
  · rename_i he
    injection h with _ h2
    exact absurd h2 he
end Go.Proofs.Ytbkfbejbloclgaa.Cm
