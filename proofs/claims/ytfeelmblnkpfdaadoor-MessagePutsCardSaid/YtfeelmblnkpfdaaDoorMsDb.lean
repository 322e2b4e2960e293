/-
  Layer 23: the document's Good tells what the program's does.
  Layer 23: the document's body, in plain words: the program's.
-/
import Derived.Test.YtfeelmblnkpfdaaDoorMsDd
import Derived.Test.YtfeelmblnkpfdaaDoorMsGe

namespace Go.Proofs.YtfeelmblnkpfdaaDoor.Ms
open Oct (pb bs rng)
open Go.RowKit
set_option maxRecDepth 100000
set_option linter.unusedSimpArgs false
set_option linter.unusedVariables false

theorem badX_eq (x : Ent) : badX x = badE x := by
  unfold badX badE badN
  rw [Bool.eq_iff_iff]
  simp only [Bool.or_eq_true, decide_eq_true_eq]
  omega
theorem badX_fun : badX = badE := funext badX_eq
theorem doc_1 (m : Msg) (r : Int) (hk : m.kind = 1) : docB m r = goodM m r := by
  have hf : fieldsM m = ⟨#[105, 110, 116]⟩ := by
    unfold fieldsM
    rw [if_neg (fun h => by rw [hk] at h; exact absurd h.1 (by decide)), hk]; rfl
  have qt : hasL (bs (fieldsM m)) 116 = true := by rw [hf]; decide
  have qT : hasL (bs (fieldsM m)) 84 = false := by rw [hf]; decide
  have qi : hasL (bs (fieldsM m)) 105 = true := by rw [hf]; decide
  have qx : hasL (bs (fieldsM m)) 120 = false := by rw [hf]; decide
  have qc : hasL (bs (fieldsM m)) 99 = false := by rw [hf]; decide
  have qe : hasL (bs (fieldsM m)) 101 = false := by rw [hf]; decide
  have o0 : ourB (fieldsM m) m.kind 0 = false := by rw [hf, hk]; decide
  have o1 : ourB (fieldsM m) m.kind 1 = false := by rw [hf, hk]; decide
  have o2 : ourB (fieldsM m) m.kind 2 = false := by rw [hf, hk]; decide
  have o3 : ourB (fieldsM m) m.kind 3 = false := by rw [hf, hk]; decide
  have o4 : ourB (fieldsM m) m.kind 4 = false := by rw [hf, hk]; decide
  have o5 : ourB (fieldsM m) m.kind 5 = false := by rw [hf, hk]; decide
  have o6 : ourB (fieldsM m) m.kind 6 = true := by rw [hf, hk]; decide
  have o7 : ourB (fieldsM m) m.kind 7 = true := by rw [hf, hk]; decide
  have o8 : ourB (fieldsM m) m.kind 8 = false := by rw [hf, hk]; decide
  have o9 : ourB (fieldsM m) m.kind 9 = false := by rw [hf, hk]; decide
  have rg : List.range 10 = [0, 1, 2, 3, 4, 5, 6, 7, 8, 9] := rfl
  unfold docB goodM
  rw [badX_fun, rg]
  unfold numB
  simp only [List.all_cons, List.all_nil]
  unfold wideB
  rw [qt, qT, qi, qx, qc, qe, o0, o1, o2, o3, o4, o5, o6, o7, o8, o9]
  clear qt qT qi qx qc qe o0 o1 o2 o3 o4 o5 o6 o7 o8 o9 hf rg
  obtain ⟨kind, frm, born, known, view, last, op, commit, client, number, nonce, text, full, base, state, ents⟩ := m
  dsimp only at *
  subst hk
  
  cases groupB r
  · rfl
  cases hA : ents.any badE
  rotate_left
  · simp [hA]
  cases hB : known.any badN
  rotate_left
  · have hkl : ¬ known.length = 0 := fun h => by rw [List.length_eq_zero_iff.1 h] at hB; cases hB
    simp (config := { decide := true }) only [bareB, wipeM, wipeK, wipeT, emptyB, numsM, senderB, leastB, sizeM, knB, knownB, nonz, badN, if_true, if_false, ite_true, ite_false, List.getD_cons_zero, List.getD_cons_succ, List.any_cons, List.any_nil, Bool.and_true, Bool.true_and, Bool.and_false, Bool.false_and, Bool.or_true, Bool.true_or, Bool.or_false, Bool.false_or, Bool.not_true, Bool.not_false, decide_true, decide_false, List.length_nil]
    rw [Bool.eq_iff_iff]
    simp only [Bool.and_eq_true, Bool.or_eq_true, Bool.not_eq_true', Bool.or_eq_false_iff, Bool.and_eq_false_iff, decide_eq_true_eq, decide_eq_false_iff_not, Bool.not_eq_eq_eq_not, Bool.not_true, Bool.not_false, hB, Bool.true_eq_false, Bool.false_eq_true, false_and, and_false, reduceCtorEq, iff_self]
    try (constructor <;> intro h <;> first | exact h.elim | (exfalso; omega) | omega)
  simp (config := { decide := true }) only [bareB, wipeM, wipeK, wipeT, emptyB, numsM, senderB, leastB, sizeM, knB, knownB, nonz, badN, if_true, if_false, ite_true, ite_false, List.getD_cons_zero, List.getD_cons_succ, List.any_cons, List.any_nil, Bool.and_true, Bool.true_and, Bool.and_false, Bool.false_and, Bool.or_true, Bool.true_or, Bool.or_false, Bool.false_or, Bool.not_true, Bool.not_false, decide_true, decide_false, List.length_nil]
  rw [Bool.eq_iff_iff]
  simp only [Bool.and_eq_true, Bool.or_eq_true, Bool.not_eq_true', Bool.or_eq_false_iff, Bool.and_eq_false_iff, decide_eq_true_eq, decide_eq_false_iff_not, Bool.not_eq_eq_eq_not, Bool.not_true, Bool.not_false]
  cases full
  all_goals simp only [hB, true_and, and_true, false_and, and_false, reduceCtorEq, Bool.false_eq_true, Bool.true_eq_false, not_true_eq_false, not_false_eq_true, or_true, true_or, or_false, false_or, iff_self]
  all_goals try (constructor <;> intro h <;> (repeat' apply And.intro) <;> omega)
theorem doc_2 (m : Msg) (r : Int) (hk : m.kind = 2) : docB m r = goodM m r := by
  have hf : fieldsM m = ⟨#[118, 111, 99, 101]⟩ := by
    unfold fieldsM
    rw [if_neg (fun h => by rw [hk] at h; exact absurd h.1 (by decide)), hk]; rfl
  have qt : hasL (bs (fieldsM m)) 116 = false := by rw [hf]; decide
  have qT : hasL (bs (fieldsM m)) 84 = false := by rw [hf]; decide
  have qi : hasL (bs (fieldsM m)) 105 = false := by rw [hf]; decide
  have qx : hasL (bs (fieldsM m)) 120 = false := by rw [hf]; decide
  have qc : hasL (bs (fieldsM m)) 99 = true := by rw [hf]; decide
  have qe : hasL (bs (fieldsM m)) 101 = true := by rw [hf]; decide
  have o0 : ourB (fieldsM m) m.kind 0 = true := by rw [hf, hk]; decide
  have o1 : ourB (fieldsM m) m.kind 1 = true := by rw [hf, hk]; decide
  have o2 : ourB (fieldsM m) m.kind 2 = true := by rw [hf, hk]; decide
  have o3 : ourB (fieldsM m) m.kind 3 = false := by rw [hf, hk]; decide
  have o4 : ourB (fieldsM m) m.kind 4 = true := by rw [hf, hk]; decide
  have o5 : ourB (fieldsM m) m.kind 5 = true := by rw [hf, hk]; decide
  have o6 : ourB (fieldsM m) m.kind 6 = false := by rw [hf, hk]; decide
  have o7 : ourB (fieldsM m) m.kind 7 = false := by rw [hf, hk]; decide
  have o8 : ourB (fieldsM m) m.kind 8 = false := by rw [hf, hk]; decide
  have o9 : ourB (fieldsM m) m.kind 9 = false := by rw [hf, hk]; decide
  have rg : List.range 10 = [0, 1, 2, 3, 4, 5, 6, 7, 8, 9] := rfl
  unfold docB goodM
  rw [badX_fun, rg]
  unfold numB
  simp only [List.all_cons, List.all_nil]
  unfold wideB
  rw [qt, qT, qi, qx, qc, qe, o0, o1, o2, o3, o4, o5, o6, o7, o8, o9]
  clear qt qT qi qx qc qe o0 o1 o2 o3 o4 o5 o6 o7 o8 o9 hf rg
  obtain ⟨kind, frm, born, known, view, last, op, commit, client, number, nonce, text, full, base, state, ents⟩ := m
  dsimp only at *
  subst hk
  
  cases groupB r
  · rfl
  cases hA : ents.any badE
  rotate_left
  · simp [hA]
  cases hB : known.any badN
  rotate_left
  · have hkl : ¬ known.length = 0 := fun h => by rw [List.length_eq_zero_iff.1 h] at hB; cases hB
    simp (config := { decide := true }) only [bareB, wipeM, wipeK, wipeT, emptyB, numsM, senderB, leastB, sizeM, knB, knownB, nonz, badN, if_true, if_false, ite_true, ite_false, List.getD_cons_zero, List.getD_cons_succ, List.any_cons, List.any_nil, Bool.and_true, Bool.true_and, Bool.and_false, Bool.false_and, Bool.or_true, Bool.true_or, Bool.or_false, Bool.false_or, Bool.not_true, Bool.not_false, decide_true, decide_false, List.length_nil]
    rw [Bool.eq_iff_iff]
    simp only [Bool.and_eq_true, Bool.or_eq_true, Bool.not_eq_true', Bool.or_eq_false_iff, Bool.and_eq_false_iff, decide_eq_true_eq, decide_eq_false_iff_not, Bool.not_eq_eq_eq_not, Bool.not_true, Bool.not_false, hB, Bool.true_eq_false, Bool.false_eq_true, false_and, and_false, reduceCtorEq, iff_self]
    try (constructor <;> intro h <;> first | exact h.elim | (exfalso; omega) | omega)
  simp (config := { decide := true }) only [bareB, wipeM, wipeK, wipeT, emptyB, numsM, senderB, leastB, sizeM, knB, knownB, nonz, badN, if_true, if_false, ite_true, ite_false, List.getD_cons_zero, List.getD_cons_succ, List.any_cons, List.any_nil, Bool.and_true, Bool.true_and, Bool.and_false, Bool.false_and, Bool.or_true, Bool.true_or, Bool.or_false, Bool.false_or, Bool.not_true, Bool.not_false, decide_true, decide_false, List.length_nil]
  rw [Bool.eq_iff_iff]
  simp only [Bool.and_eq_true, Bool.or_eq_true, Bool.not_eq_true', Bool.or_eq_false_iff, Bool.and_eq_false_iff, decide_eq_true_eq, decide_eq_false_iff_not, Bool.not_eq_eq_eq_not, Bool.not_true, Bool.not_false]
  cases full
  all_goals simp only [hB, true_and, and_true, false_and, and_false, reduceCtorEq, Bool.false_eq_true, Bool.true_eq_false, not_true_eq_false, not_false_eq_true, or_true, true_or, or_false, false_or, iff_self]
  all_goals try (constructor <;> intro h <;> (repeat' apply And.intro) <;> omega)
theorem doc_3 (m : Msg) (r : Int) (hk : m.kind = 3) : docB m r = goodM m r := by
  have hf : fieldsM m = ⟨#[118, 111]⟩ := by
    unfold fieldsM
    rw [if_neg (fun h => by rw [hk] at h; exact absurd h.1 (by decide)), hk]; rfl
  have qt : hasL (bs (fieldsM m)) 116 = false := by rw [hf]; decide
  have qT : hasL (bs (fieldsM m)) 84 = false := by rw [hf]; decide
  have qi : hasL (bs (fieldsM m)) 105 = false := by rw [hf]; decide
  have qx : hasL (bs (fieldsM m)) 120 = false := by rw [hf]; decide
  have qc : hasL (bs (fieldsM m)) 99 = false := by rw [hf]; decide
  have qe : hasL (bs (fieldsM m)) 101 = false := by rw [hf]; decide
  have o0 : ourB (fieldsM m) m.kind 0 = true := by rw [hf, hk]; decide
  have o1 : ourB (fieldsM m) m.kind 1 = true := by rw [hf, hk]; decide
  have o2 : ourB (fieldsM m) m.kind 2 = true := by rw [hf, hk]; decide
  have o3 : ourB (fieldsM m) m.kind 3 = false := by rw [hf, hk]; decide
  have o4 : ourB (fieldsM m) m.kind 4 = true := by rw [hf, hk]; decide
  have o5 : ourB (fieldsM m) m.kind 5 = false := by rw [hf, hk]; decide
  have o6 : ourB (fieldsM m) m.kind 6 = false := by rw [hf, hk]; decide
  have o7 : ourB (fieldsM m) m.kind 7 = false := by rw [hf, hk]; decide
  have o8 : ourB (fieldsM m) m.kind 8 = false := by rw [hf, hk]; decide
  have o9 : ourB (fieldsM m) m.kind 9 = false := by rw [hf, hk]; decide
  have rg : List.range 10 = [0, 1, 2, 3, 4, 5, 6, 7, 8, 9] := rfl
  unfold docB goodM
  rw [badX_fun, rg]
  unfold numB
  simp only [List.all_cons, List.all_nil]
  unfold wideB
  rw [qt, qT, qi, qx, qc, qe, o0, o1, o2, o3, o4, o5, o6, o7, o8, o9]
  clear qt qT qi qx qc qe o0 o1 o2 o3 o4 o5 o6 o7 o8 o9 hf rg
  obtain ⟨kind, frm, born, known, view, last, op, commit, client, number, nonce, text, full, base, state, ents⟩ := m
  dsimp only at *
  subst hk
  
  cases groupB r
  · rfl
  cases hA : ents.any badE
  rotate_left
  · simp [hA]
  cases hB : known.any badN
  rotate_left
  · have hkl : ¬ known.length = 0 := fun h => by rw [List.length_eq_zero_iff.1 h] at hB; cases hB
    simp (config := { decide := true }) only [bareB, wipeM, wipeK, wipeT, emptyB, numsM, senderB, leastB, sizeM, knB, knownB, nonz, badN, if_true, if_false, ite_true, ite_false, List.getD_cons_zero, List.getD_cons_succ, List.any_cons, List.any_nil, Bool.and_true, Bool.true_and, Bool.and_false, Bool.false_and, Bool.or_true, Bool.true_or, Bool.or_false, Bool.false_or, Bool.not_true, Bool.not_false, decide_true, decide_false, List.length_nil]
    rw [Bool.eq_iff_iff]
    simp only [Bool.and_eq_true, Bool.or_eq_true, Bool.not_eq_true', Bool.or_eq_false_iff, Bool.and_eq_false_iff, decide_eq_true_eq, decide_eq_false_iff_not, Bool.not_eq_eq_eq_not, Bool.not_true, Bool.not_false, hB, Bool.true_eq_false, Bool.false_eq_true, false_and, and_false, reduceCtorEq, iff_self]
    try (constructor <;> intro h <;> first | exact h.elim | (exfalso; omega) | omega)
  simp (config := { decide := true }) only [bareB, wipeM, wipeK, wipeT, emptyB, numsM, senderB, leastB, sizeM, knB, knownB, nonz, badN, if_true, if_false, ite_true, ite_false, List.getD_cons_zero, List.getD_cons_succ, List.any_cons, List.any_nil, Bool.and_true, Bool.true_and, Bool.and_false, Bool.false_and, Bool.or_true, Bool.true_or, Bool.or_false, Bool.false_or, Bool.not_true, Bool.not_false, decide_true, decide_false, List.length_nil]
  rw [Bool.eq_iff_iff]
  simp only [Bool.and_eq_true, Bool.or_eq_true, Bool.not_eq_true', Bool.or_eq_false_iff, Bool.and_eq_false_iff, decide_eq_true_eq, decide_eq_false_iff_not, Bool.not_eq_eq_eq_not, Bool.not_true, Bool.not_false]
  cases full
  all_goals simp only [hB, true_and, and_true, false_and, and_false, reduceCtorEq, Bool.false_eq_true, Bool.true_eq_false, not_true_eq_false, not_false_eq_true, or_true, true_or, or_false, false_or, iff_self]
  all_goals try (constructor <;> intro h <;> (repeat' apply And.intro) <;> omega)
theorem doc_4 (m : Msg) (r : Int) (hk : m.kind = 4) : docB m r = goodM m r := by
  have hf : fieldsM m = ⟨#[118, 105, 110, 116]⟩ := by
    unfold fieldsM
    rw [if_neg (fun h => by rw [hk] at h; exact absurd h.1 (by decide)), hk]; rfl
  have qt : hasL (bs (fieldsM m)) 116 = true := by rw [hf]; decide
  have qT : hasL (bs (fieldsM m)) 84 = false := by rw [hf]; decide
  have qi : hasL (bs (fieldsM m)) 105 = true := by rw [hf]; decide
  have qx : hasL (bs (fieldsM m)) 120 = false := by rw [hf]; decide
  have qc : hasL (bs (fieldsM m)) 99 = false := by rw [hf]; decide
  have qe : hasL (bs (fieldsM m)) 101 = false := by rw [hf]; decide
  have o0 : ourB (fieldsM m) m.kind 0 = true := by rw [hf, hk]; decide
  have o1 : ourB (fieldsM m) m.kind 1 = true := by rw [hf, hk]; decide
  have o2 : ourB (fieldsM m) m.kind 2 = true := by rw [hf, hk]; decide
  have o3 : ourB (fieldsM m) m.kind 3 = false := by rw [hf, hk]; decide
  have o4 : ourB (fieldsM m) m.kind 4 = false := by rw [hf, hk]; decide
  have o5 : ourB (fieldsM m) m.kind 5 = false := by rw [hf, hk]; decide
  have o6 : ourB (fieldsM m) m.kind 6 = true := by rw [hf, hk]; decide
  have o7 : ourB (fieldsM m) m.kind 7 = true := by rw [hf, hk]; decide
  have o8 : ourB (fieldsM m) m.kind 8 = false := by rw [hf, hk]; decide
  have o9 : ourB (fieldsM m) m.kind 9 = false := by rw [hf, hk]; decide
  have rg : List.range 10 = [0, 1, 2, 3, 4, 5, 6, 7, 8, 9] := rfl
  unfold docB goodM
  rw [badX_fun, rg]
  unfold numB
  simp only [List.all_cons, List.all_nil]
  unfold wideB
  rw [qt, qT, qi, qx, qc, qe, o0, o1, o2, o3, o4, o5, o6, o7, o8, o9]
  clear qt qT qi qx qc qe o0 o1 o2 o3 o4 o5 o6 o7 o8 o9 hf rg
  obtain ⟨kind, frm, born, known, view, last, op, commit, client, number, nonce, text, full, base, state, ents⟩ := m
  dsimp only at *
  subst hk
  
  cases groupB r
  · rfl
  cases hA : ents.any badE
  rotate_left
  · simp [hA]
  cases hB : known.any badN
  rotate_left
  · have hkl : ¬ known.length = 0 := fun h => by rw [List.length_eq_zero_iff.1 h] at hB; cases hB
    simp (config := { decide := true }) only [bareB, wipeM, wipeK, wipeT, emptyB, numsM, senderB, leastB, sizeM, knB, knownB, nonz, badN, if_true, if_false, ite_true, ite_false, List.getD_cons_zero, List.getD_cons_succ, List.any_cons, List.any_nil, Bool.and_true, Bool.true_and, Bool.and_false, Bool.false_and, Bool.or_true, Bool.true_or, Bool.or_false, Bool.false_or, Bool.not_true, Bool.not_false, decide_true, decide_false, List.length_nil]
    rw [Bool.eq_iff_iff]
    simp only [Bool.and_eq_true, Bool.or_eq_true, Bool.not_eq_true', Bool.or_eq_false_iff, Bool.and_eq_false_iff, decide_eq_true_eq, decide_eq_false_iff_not, Bool.not_eq_eq_eq_not, Bool.not_true, Bool.not_false, hB, Bool.true_eq_false, Bool.false_eq_true, false_and, and_false, reduceCtorEq, iff_self]
    try (constructor <;> intro h <;> first | exact h.elim | (exfalso; omega) | omega)
  simp (config := { decide := true }) only [bareB, wipeM, wipeK, wipeT, emptyB, numsM, senderB, leastB, sizeM, knB, knownB, nonz, badN, if_true, if_false, ite_true, ite_false, List.getD_cons_zero, List.getD_cons_succ, List.any_cons, List.any_nil, Bool.and_true, Bool.true_and, Bool.and_false, Bool.false_and, Bool.or_true, Bool.true_or, Bool.or_false, Bool.false_or, Bool.not_true, Bool.not_false, decide_true, decide_false, List.length_nil]
  rw [Bool.eq_iff_iff]
  simp only [Bool.and_eq_true, Bool.or_eq_true, Bool.not_eq_true', Bool.or_eq_false_iff, Bool.and_eq_false_iff, decide_eq_true_eq, decide_eq_false_iff_not, Bool.not_eq_eq_eq_not, Bool.not_true, Bool.not_false]
  cases full
  all_goals simp only [hB, true_and, and_true, false_and, and_false, reduceCtorEq, Bool.false_eq_true, Bool.true_eq_false, not_true_eq_false, not_false_eq_true, or_true, true_or, or_false, false_or, iff_self]
  all_goals try (constructor <;> intro h <;> (repeat' apply And.intro) <;> omega)
theorem doc_5 (m : Msg) (r : Int) (hk : m.kind = 5) : docB m r = goodM m r := by
  have hf : fieldsM m = ⟨#[118, 111, 99]⟩ := by
    unfold fieldsM
    rw [if_neg (fun h => by rw [hk] at h; exact absurd h.1 (by decide)), hk]; rfl
  have qt : hasL (bs (fieldsM m)) 116 = false := by rw [hf]; decide
  have qT : hasL (bs (fieldsM m)) 84 = false := by rw [hf]; decide
  have qi : hasL (bs (fieldsM m)) 105 = false := by rw [hf]; decide
  have qx : hasL (bs (fieldsM m)) 120 = false := by rw [hf]; decide
  have qc : hasL (bs (fieldsM m)) 99 = true := by rw [hf]; decide
  have qe : hasL (bs (fieldsM m)) 101 = false := by rw [hf]; decide
  have o0 : ourB (fieldsM m) m.kind 0 = true := by rw [hf, hk]; decide
  have o1 : ourB (fieldsM m) m.kind 1 = true := by rw [hf, hk]; decide
  have o2 : ourB (fieldsM m) m.kind 2 = true := by rw [hf, hk]; decide
  have o3 : ourB (fieldsM m) m.kind 3 = false := by rw [hf, hk]; decide
  have o4 : ourB (fieldsM m) m.kind 4 = true := by rw [hf, hk]; decide
  have o5 : ourB (fieldsM m) m.kind 5 = true := by rw [hf, hk]; decide
  have o6 : ourB (fieldsM m) m.kind 6 = false := by rw [hf, hk]; decide
  have o7 : ourB (fieldsM m) m.kind 7 = false := by rw [hf, hk]; decide
  have o8 : ourB (fieldsM m) m.kind 8 = false := by rw [hf, hk]; decide
  have o9 : ourB (fieldsM m) m.kind 9 = false := by rw [hf, hk]; decide
  have rg : List.range 10 = [0, 1, 2, 3, 4, 5, 6, 7, 8, 9] := rfl
  unfold docB goodM
  rw [badX_fun, rg]
  unfold numB
  simp only [List.all_cons, List.all_nil]
  unfold wideB
  rw [qt, qT, qi, qx, qc, qe, o0, o1, o2, o3, o4, o5, o6, o7, o8, o9]
  clear qt qT qi qx qc qe o0 o1 o2 o3 o4 o5 o6 o7 o8 o9 hf rg
  obtain ⟨kind, frm, born, known, view, last, op, commit, client, number, nonce, text, full, base, state, ents⟩ := m
  dsimp only at *
  subst hk
  
  cases groupB r
  · rfl
  cases hA : ents.any badE
  rotate_left
  · simp [hA]
  cases hB : known.any badN
  rotate_left
  · have hkl : ¬ known.length = 0 := fun h => by rw [List.length_eq_zero_iff.1 h] at hB; cases hB
    simp (config := { decide := true }) only [bareB, wipeM, wipeK, wipeT, emptyB, numsM, senderB, leastB, sizeM, knB, knownB, nonz, badN, if_true, if_false, ite_true, ite_false, List.getD_cons_zero, List.getD_cons_succ, List.any_cons, List.any_nil, Bool.and_true, Bool.true_and, Bool.and_false, Bool.false_and, Bool.or_true, Bool.true_or, Bool.or_false, Bool.false_or, Bool.not_true, Bool.not_false, decide_true, decide_false, List.length_nil]
    rw [Bool.eq_iff_iff]
    simp only [Bool.and_eq_true, Bool.or_eq_true, Bool.not_eq_true', Bool.or_eq_false_iff, Bool.and_eq_false_iff, decide_eq_true_eq, decide_eq_false_iff_not, Bool.not_eq_eq_eq_not, Bool.not_true, Bool.not_false, hB, Bool.true_eq_false, Bool.false_eq_true, false_and, and_false, reduceCtorEq, iff_self]
    try (constructor <;> intro h <;> first | exact h.elim | (exfalso; omega) | omega)
  simp (config := { decide := true }) only [bareB, wipeM, wipeK, wipeT, emptyB, numsM, senderB, leastB, sizeM, knB, knownB, nonz, badN, if_true, if_false, ite_true, ite_false, List.getD_cons_zero, List.getD_cons_succ, List.any_cons, List.any_nil, Bool.and_true, Bool.true_and, Bool.and_false, Bool.false_and, Bool.or_true, Bool.true_or, Bool.or_false, Bool.false_or, Bool.not_true, Bool.not_false, decide_true, decide_false, List.length_nil]
  rw [Bool.eq_iff_iff]
  simp only [Bool.and_eq_true, Bool.or_eq_true, Bool.not_eq_true', Bool.or_eq_false_iff, Bool.and_eq_false_iff, decide_eq_true_eq, decide_eq_false_iff_not, Bool.not_eq_eq_eq_not, Bool.not_true, Bool.not_false]
  cases full
  all_goals simp only [hB, true_and, and_true, false_and, and_false, reduceCtorEq, Bool.false_eq_true, Bool.true_eq_false, not_true_eq_false, not_false_eq_true, or_true, true_or, or_false, false_or, iff_self]
  all_goals try (constructor <;> intro h <;> (repeat' apply And.intro) <;> omega)
theorem doc_6 (m : Msg) (r : Int) (hk : m.kind = 6) : docB m r = goodM m r := by
  have hf : fieldsM m = ⟨#[118]⟩ := by
    unfold fieldsM
    rw [if_neg (fun h => by rw [hk] at h; exact absurd h.1 (by decide)), hk]; rfl
  have qt : hasL (bs (fieldsM m)) 116 = false := by rw [hf]; decide
  have qT : hasL (bs (fieldsM m)) 84 = false := by rw [hf]; decide
  have qi : hasL (bs (fieldsM m)) 105 = false := by rw [hf]; decide
  have qx : hasL (bs (fieldsM m)) 120 = false := by rw [hf]; decide
  have qc : hasL (bs (fieldsM m)) 99 = false := by rw [hf]; decide
  have qe : hasL (bs (fieldsM m)) 101 = false := by rw [hf]; decide
  have o0 : ourB (fieldsM m) m.kind 0 = true := by rw [hf, hk]; decide
  have o1 : ourB (fieldsM m) m.kind 1 = true := by rw [hf, hk]; decide
  have o2 : ourB (fieldsM m) m.kind 2 = true := by rw [hf, hk]; decide
  have o3 : ourB (fieldsM m) m.kind 3 = false := by rw [hf, hk]; decide
  have o4 : ourB (fieldsM m) m.kind 4 = false := by rw [hf, hk]; decide
  have o5 : ourB (fieldsM m) m.kind 5 = false := by rw [hf, hk]; decide
  have o6 : ourB (fieldsM m) m.kind 6 = false := by rw [hf, hk]; decide
  have o7 : ourB (fieldsM m) m.kind 7 = false := by rw [hf, hk]; decide
  have o8 : ourB (fieldsM m) m.kind 8 = false := by rw [hf, hk]; decide
  have o9 : ourB (fieldsM m) m.kind 9 = false := by rw [hf, hk]; decide
  have rg : List.range 10 = [0, 1, 2, 3, 4, 5, 6, 7, 8, 9] := rfl
  unfold docB goodM
  rw [badX_fun, rg]
  unfold numB
  simp only [List.all_cons, List.all_nil]
  unfold wideB
  rw [qt, qT, qi, qx, qc, qe, o0, o1, o2, o3, o4, o5, o6, o7, o8, o9]
  clear qt qT qi qx qc qe o0 o1 o2 o3 o4 o5 o6 o7 o8 o9 hf rg
  obtain ⟨kind, frm, born, known, view, last, op, commit, client, number, nonce, text, full, base, state, ents⟩ := m
  dsimp only at *
  subst hk
  
  cases groupB r
  · rfl
  cases hA : ents.any badE
  rotate_left
  · simp [hA]
  cases hB : known.any badN
  rotate_left
  · have hkl : ¬ known.length = 0 := fun h => by rw [List.length_eq_zero_iff.1 h] at hB; cases hB
    simp (config := { decide := true }) only [bareB, wipeM, wipeK, wipeT, emptyB, numsM, senderB, leastB, sizeM, knB, knownB, nonz, badN, if_true, if_false, ite_true, ite_false, List.getD_cons_zero, List.getD_cons_succ, List.any_cons, List.any_nil, Bool.and_true, Bool.true_and, Bool.and_false, Bool.false_and, Bool.or_true, Bool.true_or, Bool.or_false, Bool.false_or, Bool.not_true, Bool.not_false, decide_true, decide_false, List.length_nil]
    rw [Bool.eq_iff_iff]
    simp only [Bool.and_eq_true, Bool.or_eq_true, Bool.not_eq_true', Bool.or_eq_false_iff, Bool.and_eq_false_iff, decide_eq_true_eq, decide_eq_false_iff_not, Bool.not_eq_eq_eq_not, Bool.not_true, Bool.not_false, hB, Bool.true_eq_false, Bool.false_eq_true, false_and, and_false, reduceCtorEq, iff_self]
    try (constructor <;> intro h <;> first | exact h.elim | (exfalso; omega) | omega)
  simp (config := { decide := true }) only [bareB, wipeM, wipeK, wipeT, emptyB, numsM, senderB, leastB, sizeM, knB, knownB, nonz, badN, if_true, if_false, ite_true, ite_false, List.getD_cons_zero, List.getD_cons_succ, List.any_cons, List.any_nil, Bool.and_true, Bool.true_and, Bool.and_false, Bool.false_and, Bool.or_true, Bool.true_or, Bool.or_false, Bool.false_or, Bool.not_true, Bool.not_false, decide_true, decide_false, List.length_nil]
  rw [Bool.eq_iff_iff]
  simp only [Bool.and_eq_true, Bool.or_eq_true, Bool.not_eq_true', Bool.or_eq_false_iff, Bool.and_eq_false_iff, decide_eq_true_eq, decide_eq_false_iff_not, Bool.not_eq_eq_eq_not, Bool.not_true, Bool.not_false]
  cases full
  all_goals simp only [hB, true_and, and_true, false_and, and_false, reduceCtorEq, Bool.false_eq_true, Bool.true_eq_false, not_true_eq_false, not_false_eq_true, or_true, true_or, or_false, false_or, iff_self]
  all_goals try (constructor <;> intro h <;> (repeat' apply And.intro) <;> omega)
theorem doc_7 (m : Msg) (r : Int) (hk : m.kind = 7) : docB m r = goodM m r := by
  have hf : fieldsM m = ⟨#[118, 108, 111, 99, 84]⟩ := by
    unfold fieldsM
    rw [if_neg (fun h => by rw [hk] at h; exact absurd h.1 (by decide)), hk]; rfl
  have qt : hasL (bs (fieldsM m)) 116 = false := by rw [hf]; decide
  have qT : hasL (bs (fieldsM m)) 84 = true := by rw [hf]; decide
  have qi : hasL (bs (fieldsM m)) 105 = false := by rw [hf]; decide
  have qx : hasL (bs (fieldsM m)) 120 = false := by rw [hf]; decide
  have qc : hasL (bs (fieldsM m)) 99 = true := by rw [hf]; decide
  have qe : hasL (bs (fieldsM m)) 101 = false := by rw [hf]; decide
  have o0 : ourB (fieldsM m) m.kind 0 = true := by rw [hf, hk]; decide
  have o1 : ourB (fieldsM m) m.kind 1 = true := by rw [hf, hk]; decide
  have o2 : ourB (fieldsM m) m.kind 2 = true := by rw [hf, hk]; decide
  have o3 : ourB (fieldsM m) m.kind 3 = true := by rw [hf, hk]; decide
  have o4 : ourB (fieldsM m) m.kind 4 = true := by rw [hf, hk]; decide
  have o5 : ourB (fieldsM m) m.kind 5 = true := by rw [hf, hk]; decide
  have o6 : ourB (fieldsM m) m.kind 6 = false := by rw [hf, hk]; decide
  have o7 : ourB (fieldsM m) m.kind 7 = false := by rw [hf, hk]; decide
  have o8 : ourB (fieldsM m) m.kind 8 = false := by rw [hf, hk]; decide
  have o9 : ourB (fieldsM m) m.kind 9 = true := by rw [hf, hk]; decide
  have rg : List.range 10 = [0, 1, 2, 3, 4, 5, 6, 7, 8, 9] := rfl
  unfold docB goodM
  rw [badX_fun, rg]
  unfold numB
  simp only [List.all_cons, List.all_nil]
  unfold wideB
  rw [qt, qT, qi, qx, qc, qe, o0, o1, o2, o3, o4, o5, o6, o7, o8, o9]
  clear qt qT qi qx qc qe o0 o1 o2 o3 o4 o5 o6 o7 o8 o9 hf rg
  obtain ⟨kind, frm, born, known, view, last, op, commit, client, number, nonce, text, full, base, state, ents⟩ := m
  dsimp only at *
  subst hk
  
  cases groupB r
  · rfl
  cases hA : ents.any badE
  rotate_left
  · simp [hA]
  cases hB : known.any badN
  rotate_left
  · have hkl : ¬ known.length = 0 := fun h => by rw [List.length_eq_zero_iff.1 h] at hB; cases hB
    simp (config := { decide := true }) only [bareB, wipeM, wipeK, wipeT, emptyB, numsM, senderB, leastB, sizeM, knB, knownB, nonz, badN, if_true, if_false, ite_true, ite_false, List.getD_cons_zero, List.getD_cons_succ, List.any_cons, List.any_nil, Bool.and_true, Bool.true_and, Bool.and_false, Bool.false_and, Bool.or_true, Bool.true_or, Bool.or_false, Bool.false_or, Bool.not_true, Bool.not_false, decide_true, decide_false, List.length_nil]
    rw [Bool.eq_iff_iff]
    simp only [Bool.and_eq_true, Bool.or_eq_true, Bool.not_eq_true', Bool.or_eq_false_iff, Bool.and_eq_false_iff, decide_eq_true_eq, decide_eq_false_iff_not, Bool.not_eq_eq_eq_not, Bool.not_true, Bool.not_false, hB, Bool.true_eq_false, Bool.false_eq_true, false_and, and_false, reduceCtorEq, iff_self]
    try (constructor <;> intro h <;> first | exact h.elim | (exfalso; omega) | omega)
  simp (config := { decide := true }) only [bareB, wipeM, wipeK, wipeT, emptyB, numsM, senderB, leastB, sizeM, knB, knownB, nonz, badN, if_true, if_false, ite_true, ite_false, List.getD_cons_zero, List.getD_cons_succ, List.any_cons, List.any_nil, Bool.and_true, Bool.true_and, Bool.and_false, Bool.false_and, Bool.or_true, Bool.true_or, Bool.or_false, Bool.false_or, Bool.not_true, Bool.not_false, decide_true, decide_false, List.length_nil]
  rw [Bool.eq_iff_iff]
  simp only [Bool.and_eq_true, Bool.or_eq_true, Bool.not_eq_true', Bool.or_eq_false_iff, Bool.and_eq_false_iff, decide_eq_true_eq, decide_eq_false_iff_not, Bool.not_eq_eq_eq_not, Bool.not_true, Bool.not_false]
  cases full
  all_goals simp only [hB, true_and, and_true, false_and, and_false, reduceCtorEq, Bool.false_eq_true, Bool.true_eq_false, not_true_eq_false, not_false_eq_true, or_true, true_or, or_false, false_or, iff_self]
  all_goals try (constructor <;> intro h <;> (repeat' apply And.intro) <;> omega)
theorem doc_8 (m : Msg) (r : Int) (hk : m.kind = 8) : docB m r = goodM m r := by
  have hf : fieldsM m = ⟨#[118, 111, 99, 84]⟩ := by
    unfold fieldsM
    rw [if_neg (fun h => by rw [hk] at h; exact absurd h.1 (by decide)), hk]; rfl
  have qt : hasL (bs (fieldsM m)) 116 = false := by rw [hf]; decide
  have qT : hasL (bs (fieldsM m)) 84 = true := by rw [hf]; decide
  have qi : hasL (bs (fieldsM m)) 105 = false := by rw [hf]; decide
  have qx : hasL (bs (fieldsM m)) 120 = false := by rw [hf]; decide
  have qc : hasL (bs (fieldsM m)) 99 = true := by rw [hf]; decide
  have qe : hasL (bs (fieldsM m)) 101 = false := by rw [hf]; decide
  have o0 : ourB (fieldsM m) m.kind 0 = true := by rw [hf, hk]; decide
  have o1 : ourB (fieldsM m) m.kind 1 = true := by rw [hf, hk]; decide
  have o2 : ourB (fieldsM m) m.kind 2 = true := by rw [hf, hk]; decide
  have o3 : ourB (fieldsM m) m.kind 3 = false := by rw [hf, hk]; decide
  have o4 : ourB (fieldsM m) m.kind 4 = true := by rw [hf, hk]; decide
  have o5 : ourB (fieldsM m) m.kind 5 = true := by rw [hf, hk]; decide
  have o6 : ourB (fieldsM m) m.kind 6 = false := by rw [hf, hk]; decide
  have o7 : ourB (fieldsM m) m.kind 7 = false := by rw [hf, hk]; decide
  have o8 : ourB (fieldsM m) m.kind 8 = false := by rw [hf, hk]; decide
  have o9 : ourB (fieldsM m) m.kind 9 = true := by rw [hf, hk]; decide
  have rg : List.range 10 = [0, 1, 2, 3, 4, 5, 6, 7, 8, 9] := rfl
  unfold docB goodM
  rw [badX_fun, rg]
  unfold numB
  simp only [List.all_cons, List.all_nil]
  unfold wideB
  rw [qt, qT, qi, qx, qc, qe, o0, o1, o2, o3, o4, o5, o6, o7, o8, o9]
  clear qt qT qi qx qc qe o0 o1 o2 o3 o4 o5 o6 o7 o8 o9 hf rg
  obtain ⟨kind, frm, born, known, view, last, op, commit, client, number, nonce, text, full, base, state, ents⟩ := m
  dsimp only at *
  subst hk
  
  cases groupB r
  · rfl
  cases hA : ents.any badE
  rotate_left
  · simp [hA]
  cases hB : known.any badN
  rotate_left
  · have hkl : ¬ known.length = 0 := fun h => by rw [List.length_eq_zero_iff.1 h] at hB; cases hB
    simp (config := { decide := true }) only [bareB, wipeM, wipeK, wipeT, emptyB, numsM, senderB, leastB, sizeM, knB, knownB, nonz, badN, if_true, if_false, ite_true, ite_false, List.getD_cons_zero, List.getD_cons_succ, List.any_cons, List.any_nil, Bool.and_true, Bool.true_and, Bool.and_false, Bool.false_and, Bool.or_true, Bool.true_or, Bool.or_false, Bool.false_or, Bool.not_true, Bool.not_false, decide_true, decide_false, List.length_nil]
    rw [Bool.eq_iff_iff]
    simp only [Bool.and_eq_true, Bool.or_eq_true, Bool.not_eq_true', Bool.or_eq_false_iff, Bool.and_eq_false_iff, decide_eq_true_eq, decide_eq_false_iff_not, Bool.not_eq_eq_eq_not, Bool.not_true, Bool.not_false, hB, Bool.true_eq_false, Bool.false_eq_true, false_and, and_false, reduceCtorEq, iff_self]
    try (constructor <;> intro h <;> first | exact h.elim | (exfalso; omega) | omega)
  simp (config := { decide := true }) only [bareB, wipeM, wipeK, wipeT, emptyB, numsM, senderB, leastB, sizeM, knB, knownB, nonz, badN, if_true, if_false, ite_true, ite_false, List.getD_cons_zero, List.getD_cons_succ, List.any_cons, List.any_nil, Bool.and_true, Bool.true_and, Bool.and_false, Bool.false_and, Bool.or_true, Bool.true_or, Bool.or_false, Bool.false_or, Bool.not_true, Bool.not_false, decide_true, decide_false, List.length_nil]
  rw [Bool.eq_iff_iff]
  simp only [Bool.and_eq_true, Bool.or_eq_true, Bool.not_eq_true', Bool.or_eq_false_iff, Bool.and_eq_false_iff, decide_eq_true_eq, decide_eq_false_iff_not, Bool.not_eq_eq_eq_not, Bool.not_true, Bool.not_false]
  cases full
  all_goals simp only [hB, true_and, and_true, false_and, and_false, reduceCtorEq, Bool.false_eq_true, Bool.true_eq_false, not_true_eq_false, not_false_eq_true, or_true, true_or, or_false, false_or, iff_self]
  all_goals try (constructor <;> intro h <;> (repeat' apply And.intro) <;> omega)
theorem doc_9 (m : Msg) (r : Int) (hk : m.kind = 9) : docB m r = goodM m r := by
  have hf : fieldsM m = ⟨#[120]⟩ := by
    unfold fieldsM
    rw [if_neg (fun h => by rw [hk] at h; exact absurd h.1 (by decide)), hk]; rfl
  have qt : hasL (bs (fieldsM m)) 116 = false := by rw [hf]; decide
  have qT : hasL (bs (fieldsM m)) 84 = false := by rw [hf]; decide
  have qi : hasL (bs (fieldsM m)) 105 = false := by rw [hf]; decide
  have qx : hasL (bs (fieldsM m)) 120 = true := by rw [hf]; decide
  have qc : hasL (bs (fieldsM m)) 99 = false := by rw [hf]; decide
  have qe : hasL (bs (fieldsM m)) 101 = false := by rw [hf]; decide
  have o0 : ourB (fieldsM m) m.kind 0 = true := by rw [hf, hk]; decide
  have o1 : ourB (fieldsM m) m.kind 1 = true := by rw [hf, hk]; decide
  have o2 : ourB (fieldsM m) m.kind 2 = false := by rw [hf, hk]; decide
  have o3 : ourB (fieldsM m) m.kind 3 = false := by rw [hf, hk]; decide
  have o4 : ourB (fieldsM m) m.kind 4 = false := by rw [hf, hk]; decide
  have o5 : ourB (fieldsM m) m.kind 5 = false := by rw [hf, hk]; decide
  have o6 : ourB (fieldsM m) m.kind 6 = false := by rw [hf, hk]; decide
  have o7 : ourB (fieldsM m) m.kind 7 = false := by rw [hf, hk]; decide
  have o8 : ourB (fieldsM m) m.kind 8 = true := by rw [hf, hk]; decide
  have o9 : ourB (fieldsM m) m.kind 9 = false := by rw [hf, hk]; decide
  have rg : List.range 10 = [0, 1, 2, 3, 4, 5, 6, 7, 8, 9] := rfl
  unfold docB goodM
  rw [badX_fun, rg]
  unfold numB
  simp only [List.all_cons, List.all_nil]
  unfold wideB
  rw [qt, qT, qi, qx, qc, qe, o0, o1, o2, o3, o4, o5, o6, o7, o8, o9]
  clear qt qT qi qx qc qe o0 o1 o2 o3 o4 o5 o6 o7 o8 o9 hf rg
  obtain ⟨kind, frm, born, known, view, last, op, commit, client, number, nonce, text, full, base, state, ents⟩ := m
  dsimp only at *
  subst hk
  
  cases groupB r
  · rfl
  cases hA : ents.any badE
  rotate_left
  · simp [hA]
  cases hB : known.any badN
  rotate_left
  · have hkl : ¬ known.length = 0 := fun h => by rw [List.length_eq_zero_iff.1 h] at hB; cases hB
    simp (config := { decide := true }) only [bareB, wipeM, wipeK, wipeT, emptyB, numsM, senderB, leastB, sizeM, knB, knownB, nonz, badN, if_true, if_false, ite_true, ite_false, List.getD_cons_zero, List.getD_cons_succ, List.any_cons, List.any_nil, Bool.and_true, Bool.true_and, Bool.and_false, Bool.false_and, Bool.or_true, Bool.true_or, Bool.or_false, Bool.false_or, Bool.not_true, Bool.not_false, decide_true, decide_false, List.length_nil]
    rw [Bool.eq_iff_iff]
    simp only [Bool.and_eq_true, Bool.or_eq_true, Bool.not_eq_true', Bool.or_eq_false_iff, Bool.and_eq_false_iff, decide_eq_true_eq, decide_eq_false_iff_not, Bool.not_eq_eq_eq_not, Bool.not_true, Bool.not_false, hB, Bool.true_eq_false, Bool.false_eq_true, false_and, and_false, reduceCtorEq, iff_self]
    try (constructor <;> intro h <;> first | exact h.elim | (exfalso; omega) | omega)
  simp (config := { decide := true }) only [bareB, wipeM, wipeK, wipeT, emptyB, numsM, senderB, leastB, sizeM, knB, knownB, nonz, badN, if_true, if_false, ite_true, ite_false, List.getD_cons_zero, List.getD_cons_succ, List.any_cons, List.any_nil, Bool.and_true, Bool.true_and, Bool.and_false, Bool.false_and, Bool.or_true, Bool.true_or, Bool.or_false, Bool.false_or, Bool.not_true, Bool.not_false, decide_true, decide_false, List.length_nil]
  rw [Bool.eq_iff_iff]
  simp only [Bool.and_eq_true, Bool.or_eq_true, Bool.not_eq_true', Bool.or_eq_false_iff, Bool.and_eq_false_iff, decide_eq_true_eq, decide_eq_false_iff_not, Bool.not_eq_eq_eq_not, Bool.not_true, Bool.not_false]
  cases full
  all_goals simp only [hB, true_and, and_true, false_and, and_false, reduceCtorEq, Bool.false_eq_true, Bool.true_eq_false, not_true_eq_false, not_false_eq_true, or_true, true_or, or_false, false_or, iff_self]
  all_goals try (constructor <;> intro h <;> (repeat' apply And.intro) <;> omega)
theorem doc_10t (m : Msg) (r : Int) (hk : m.kind = 10) (hf : m.full = true) : docB m r = goodM m r := by
  have hf : fieldsM m = ⟨#[118, 120, 102, 111, 99, 84]⟩ := by
    unfold fieldsM
    rw [if_pos ⟨hk, hf⟩]
  have qt : hasL (bs (fieldsM m)) 116 = false := by rw [hf]; decide
  have qT : hasL (bs (fieldsM m)) 84 = true := by rw [hf]; decide
  have qi : hasL (bs (fieldsM m)) 105 = false := by rw [hf]; decide
  have qx : hasL (bs (fieldsM m)) 120 = true := by rw [hf]; decide
  have qc : hasL (bs (fieldsM m)) 99 = true := by rw [hf]; decide
  have qe : hasL (bs (fieldsM m)) 101 = false := by rw [hf]; decide
  have o0 : ourB (fieldsM m) m.kind 0 = true := by rw [hf, hk]; decide
  have o1 : ourB (fieldsM m) m.kind 1 = true := by rw [hf, hk]; decide
  have o2 : ourB (fieldsM m) m.kind 2 = true := by rw [hf, hk]; decide
  have o3 : ourB (fieldsM m) m.kind 3 = false := by rw [hf, hk]; decide
  have o4 : ourB (fieldsM m) m.kind 4 = true := by rw [hf, hk]; decide
  have o5 : ourB (fieldsM m) m.kind 5 = true := by rw [hf, hk]; decide
  have o6 : ourB (fieldsM m) m.kind 6 = false := by rw [hf, hk]; decide
  have o7 : ourB (fieldsM m) m.kind 7 = false := by rw [hf, hk]; decide
  have o8 : ourB (fieldsM m) m.kind 8 = true := by rw [hf, hk]; decide
  have o9 : ourB (fieldsM m) m.kind 9 = true := by rw [hf, hk]; decide
  have rg : List.range 10 = [0, 1, 2, 3, 4, 5, 6, 7, 8, 9] := rfl
  unfold docB goodM
  rw [badX_fun, rg]
  unfold numB
  simp only [List.all_cons, List.all_nil]
  unfold wideB
  rw [qt, qT, qi, qx, qc, qe, o0, o1, o2, o3, o4, o5, o6, o7, o8, o9]
  clear qt qT qi qx qc qe o0 o1 o2 o3 o4 o5 o6 o7 o8 o9 hf rg
  obtain ⟨kind, frm, born, known, view, last, op, commit, client, number, nonce, text, full, base, state, ents⟩ := m
  dsimp only at *
  subst hk
  subst hf
  cases groupB r
  · rfl
  cases hA : ents.any badE
  rotate_left
  · simp [hA]
  cases hB : known.any badN
  rotate_left
  · have hkl : ¬ known.length = 0 := fun h => by rw [List.length_eq_zero_iff.1 h] at hB; cases hB
    simp (config := { decide := true }) only [bareB, wipeM, wipeK, wipeT, emptyB, numsM, senderB, leastB, sizeM, knB, knownB, nonz, badN, if_true, if_false, ite_true, ite_false, List.getD_cons_zero, List.getD_cons_succ, List.any_cons, List.any_nil, Bool.and_true, Bool.true_and, Bool.and_false, Bool.false_and, Bool.or_true, Bool.true_or, Bool.or_false, Bool.false_or, Bool.not_true, Bool.not_false, decide_true, decide_false, List.length_nil]
    rw [Bool.eq_iff_iff]
    simp only [Bool.and_eq_true, Bool.or_eq_true, Bool.not_eq_true', Bool.or_eq_false_iff, Bool.and_eq_false_iff, decide_eq_true_eq, decide_eq_false_iff_not, Bool.not_eq_eq_eq_not, Bool.not_true, Bool.not_false, hB, Bool.true_eq_false, Bool.false_eq_true, false_and, and_false, reduceCtorEq, iff_self]
    try (constructor <;> intro h <;> first | exact h.elim | (exfalso; omega) | omega)
  simp (config := { decide := true }) only [bareB, wipeM, wipeK, wipeT, emptyB, numsM, senderB, leastB, sizeM, knB, knownB, nonz, badN, if_true, if_false, ite_true, ite_false, List.getD_cons_zero, List.getD_cons_succ, List.any_cons, List.any_nil, Bool.and_true, Bool.true_and, Bool.and_false, Bool.false_and, Bool.or_true, Bool.true_or, Bool.or_false, Bool.false_or, Bool.not_true, Bool.not_false, decide_true, decide_false, List.length_nil]
  rw [Bool.eq_iff_iff]
  simp only [Bool.and_eq_true, Bool.or_eq_true, Bool.not_eq_true', Bool.or_eq_false_iff, Bool.and_eq_false_iff, decide_eq_true_eq, decide_eq_false_iff_not, Bool.not_eq_eq_eq_not, Bool.not_true, Bool.not_false]
  skip
  all_goals simp only [hB, true_and, and_true, false_and, and_false, reduceCtorEq, Bool.false_eq_true, Bool.true_eq_false, not_true_eq_false, not_false_eq_true, or_true, true_or, or_false, false_or, iff_self]
  all_goals try (constructor <;> intro h <;> (repeat' apply And.intro) <;> omega)
theorem doc_10f (m : Msg) (r : Int) (hk : m.kind = 10) (hf : m.full = false) : docB m r = goodM m r := by
  have hf : fieldsM m = ⟨#[118, 120, 102]⟩ := by
    unfold fieldsM
    rw [if_neg (fun h => by rw [hf] at h; exact absurd h.2 (by decide)), hk]; rfl
  have qt : hasL (bs (fieldsM m)) 116 = false := by rw [hf]; decide
  have qT : hasL (bs (fieldsM m)) 84 = false := by rw [hf]; decide
  have qi : hasL (bs (fieldsM m)) 105 = false := by rw [hf]; decide
  have qx : hasL (bs (fieldsM m)) 120 = true := by rw [hf]; decide
  have qc : hasL (bs (fieldsM m)) 99 = false := by rw [hf]; decide
  have qe : hasL (bs (fieldsM m)) 101 = false := by rw [hf]; decide
  have o0 : ourB (fieldsM m) m.kind 0 = true := by rw [hf, hk]; decide
  have o1 : ourB (fieldsM m) m.kind 1 = true := by rw [hf, hk]; decide
  have o2 : ourB (fieldsM m) m.kind 2 = true := by rw [hf, hk]; decide
  have o3 : ourB (fieldsM m) m.kind 3 = false := by rw [hf, hk]; decide
  have o4 : ourB (fieldsM m) m.kind 4 = false := by rw [hf, hk]; decide
  have o5 : ourB (fieldsM m) m.kind 5 = false := by rw [hf, hk]; decide
  have o6 : ourB (fieldsM m) m.kind 6 = false := by rw [hf, hk]; decide
  have o7 : ourB (fieldsM m) m.kind 7 = false := by rw [hf, hk]; decide
  have o8 : ourB (fieldsM m) m.kind 8 = true := by rw [hf, hk]; decide
  have o9 : ourB (fieldsM m) m.kind 9 = false := by rw [hf, hk]; decide
  have rg : List.range 10 = [0, 1, 2, 3, 4, 5, 6, 7, 8, 9] := rfl
  unfold docB goodM
  rw [badX_fun, rg]
  unfold numB
  simp only [List.all_cons, List.all_nil]
  unfold wideB
  rw [qt, qT, qi, qx, qc, qe, o0, o1, o2, o3, o4, o5, o6, o7, o8, o9]
  clear qt qT qi qx qc qe o0 o1 o2 o3 o4 o5 o6 o7 o8 o9 hf rg
  obtain ⟨kind, frm, born, known, view, last, op, commit, client, number, nonce, text, full, base, state, ents⟩ := m
  dsimp only at *
  subst hk
  subst hf
  cases groupB r
  · rfl
  cases hA : ents.any badE
  rotate_left
  · simp [hA]
  cases hB : known.any badN
  rotate_left
  · have hkl : ¬ known.length = 0 := fun h => by rw [List.length_eq_zero_iff.1 h] at hB; cases hB
    simp (config := { decide := true }) only [bareB, wipeM, wipeK, wipeT, emptyB, numsM, senderB, leastB, sizeM, knB, knownB, nonz, badN, if_true, if_false, ite_true, ite_false, List.getD_cons_zero, List.getD_cons_succ, List.any_cons, List.any_nil, Bool.and_true, Bool.true_and, Bool.and_false, Bool.false_and, Bool.or_true, Bool.true_or, Bool.or_false, Bool.false_or, Bool.not_true, Bool.not_false, decide_true, decide_false, List.length_nil]
    rw [Bool.eq_iff_iff]
    simp only [Bool.and_eq_true, Bool.or_eq_true, Bool.not_eq_true', Bool.or_eq_false_iff, Bool.and_eq_false_iff, decide_eq_true_eq, decide_eq_false_iff_not, Bool.not_eq_eq_eq_not, Bool.not_true, Bool.not_false, hB, Bool.true_eq_false, Bool.false_eq_true, false_and, and_false, reduceCtorEq, iff_self]
    try (constructor <;> intro h <;> first | exact h.elim | (exfalso; omega) | omega)
  simp (config := { decide := true }) only [bareB, wipeM, wipeK, wipeT, emptyB, numsM, senderB, leastB, sizeM, knB, knownB, nonz, badN, if_true, if_false, ite_true, ite_false, List.getD_cons_zero, List.getD_cons_succ, List.any_cons, List.any_nil, Bool.and_true, Bool.true_and, Bool.and_false, Bool.false_and, Bool.or_true, Bool.true_or, Bool.or_false, Bool.false_or, Bool.not_true, Bool.not_false, decide_true, decide_false, List.length_nil]
  rw [Bool.eq_iff_iff]
  simp only [Bool.and_eq_true, Bool.or_eq_true, Bool.not_eq_true', Bool.or_eq_false_iff, Bool.and_eq_false_iff, decide_eq_true_eq, decide_eq_false_iff_not, Bool.not_eq_eq_eq_not, Bool.not_true, Bool.not_false]
  skip
  all_goals simp only [hB, true_and, and_true, false_and, and_false, reduceCtorEq, Bool.false_eq_true, Bool.true_eq_false, not_true_eq_false, not_false_eq_true, or_true, true_or, or_false, false_or, iff_self]
  all_goals try (constructor <;> intro h <;> (repeat' apply And.intro) <;> omega)
theorem doc_11 (m : Msg) (r : Int) (hk : m.kind = 11) : docB m r = goodM m r := by
  have hf : fieldsM m = ⟨#[118, 111]⟩ := by
    unfold fieldsM
    rw [if_neg (fun h => by rw [hk] at h; exact absurd h.1 (by decide)), hk]; rfl
  have qt : hasL (bs (fieldsM m)) 116 = false := by rw [hf]; decide
  have qT : hasL (bs (fieldsM m)) 84 = false := by rw [hf]; decide
  have qi : hasL (bs (fieldsM m)) 105 = false := by rw [hf]; decide
  have qx : hasL (bs (fieldsM m)) 120 = false := by rw [hf]; decide
  have qc : hasL (bs (fieldsM m)) 99 = false := by rw [hf]; decide
  have qe : hasL (bs (fieldsM m)) 101 = false := by rw [hf]; decide
  have o0 : ourB (fieldsM m) m.kind 0 = true := by rw [hf, hk]; decide
  have o1 : ourB (fieldsM m) m.kind 1 = true := by rw [hf, hk]; decide
  have o2 : ourB (fieldsM m) m.kind 2 = true := by rw [hf, hk]; decide
  have o3 : ourB (fieldsM m) m.kind 3 = false := by rw [hf, hk]; decide
  have o4 : ourB (fieldsM m) m.kind 4 = true := by rw [hf, hk]; decide
  have o5 : ourB (fieldsM m) m.kind 5 = false := by rw [hf, hk]; decide
  have o6 : ourB (fieldsM m) m.kind 6 = false := by rw [hf, hk]; decide
  have o7 : ourB (fieldsM m) m.kind 7 = false := by rw [hf, hk]; decide
  have o8 : ourB (fieldsM m) m.kind 8 = false := by rw [hf, hk]; decide
  have o9 : ourB (fieldsM m) m.kind 9 = false := by rw [hf, hk]; decide
  have rg : List.range 10 = [0, 1, 2, 3, 4, 5, 6, 7, 8, 9] := rfl
  unfold docB goodM
  rw [badX_fun, rg]
  unfold numB
  simp only [List.all_cons, List.all_nil]
  unfold wideB
  rw [qt, qT, qi, qx, qc, qe, o0, o1, o2, o3, o4, o5, o6, o7, o8, o9]
  clear qt qT qi qx qc qe o0 o1 o2 o3 o4 o5 o6 o7 o8 o9 hf rg
  obtain ⟨kind, frm, born, known, view, last, op, commit, client, number, nonce, text, full, base, state, ents⟩ := m
  dsimp only at *
  subst hk
  
  cases groupB r
  · rfl
  cases hA : ents.any badE
  rotate_left
  · simp [hA]
  cases hB : known.any badN
  rotate_left
  · have hkl : ¬ known.length = 0 := fun h => by rw [List.length_eq_zero_iff.1 h] at hB; cases hB
    simp (config := { decide := true }) only [bareB, wipeM, wipeK, wipeT, emptyB, numsM, senderB, leastB, sizeM, knB, knownB, nonz, badN, if_true, if_false, ite_true, ite_false, List.getD_cons_zero, List.getD_cons_succ, List.any_cons, List.any_nil, Bool.and_true, Bool.true_and, Bool.and_false, Bool.false_and, Bool.or_true, Bool.true_or, Bool.or_false, Bool.false_or, Bool.not_true, Bool.not_false, decide_true, decide_false, List.length_nil]
    rw [Bool.eq_iff_iff]
    simp only [Bool.and_eq_true, Bool.or_eq_true, Bool.not_eq_true', Bool.or_eq_false_iff, Bool.and_eq_false_iff, decide_eq_true_eq, decide_eq_false_iff_not, Bool.not_eq_eq_eq_not, Bool.not_true, Bool.not_false, hB, Bool.true_eq_false, Bool.false_eq_true, false_and, and_false, reduceCtorEq, iff_self]
    try (constructor <;> intro h <;> first | exact h.elim | (exfalso; omega) | omega)
  simp (config := { decide := true }) only [bareB, wipeM, wipeK, wipeT, emptyB, numsM, senderB, leastB, sizeM, knB, knownB, nonz, badN, if_true, if_false, ite_true, ite_false, List.getD_cons_zero, List.getD_cons_succ, List.any_cons, List.any_nil, Bool.and_true, Bool.true_and, Bool.and_false, Bool.false_and, Bool.or_true, Bool.true_or, Bool.or_false, Bool.false_or, Bool.not_true, Bool.not_false, decide_true, decide_false, List.length_nil]
  rw [Bool.eq_iff_iff]
  simp only [Bool.and_eq_true, Bool.or_eq_true, Bool.not_eq_true', Bool.or_eq_false_iff, Bool.and_eq_false_iff, decide_eq_true_eq, decide_eq_false_iff_not, Bool.not_eq_eq_eq_not, Bool.not_true, Bool.not_false]
  cases full
  all_goals simp only [hB, true_and, and_true, false_and, and_false, reduceCtorEq, Bool.false_eq_true, Bool.true_eq_false, not_true_eq_false, not_false_eq_true, or_true, true_or, or_false, false_or, iff_self]
  all_goals try (constructor <;> intro h <;> (repeat' apply And.intro) <;> omega)
theorem doc_12 (m : Msg) (r : Int) (hk : m.kind = 12) : docB m r = goodM m r := by
  have hf : fieldsM m = ⟨#[118, 111, 99, 84]⟩ := by
    unfold fieldsM
    rw [if_neg (fun h => by rw [hk] at h; exact absurd h.1 (by decide)), hk]; rfl
  have qt : hasL (bs (fieldsM m)) 116 = false := by rw [hf]; decide
  have qT : hasL (bs (fieldsM m)) 84 = true := by rw [hf]; decide
  have qi : hasL (bs (fieldsM m)) 105 = false := by rw [hf]; decide
  have qx : hasL (bs (fieldsM m)) 120 = false := by rw [hf]; decide
  have qc : hasL (bs (fieldsM m)) 99 = true := by rw [hf]; decide
  have qe : hasL (bs (fieldsM m)) 101 = false := by rw [hf]; decide
  have o0 : ourB (fieldsM m) m.kind 0 = true := by rw [hf, hk]; decide
  have o1 : ourB (fieldsM m) m.kind 1 = true := by rw [hf, hk]; decide
  have o2 : ourB (fieldsM m) m.kind 2 = true := by rw [hf, hk]; decide
  have o3 : ourB (fieldsM m) m.kind 3 = false := by rw [hf, hk]; decide
  have o4 : ourB (fieldsM m) m.kind 4 = true := by rw [hf, hk]; decide
  have o5 : ourB (fieldsM m) m.kind 5 = true := by rw [hf, hk]; decide
  have o6 : ourB (fieldsM m) m.kind 6 = false := by rw [hf, hk]; decide
  have o7 : ourB (fieldsM m) m.kind 7 = false := by rw [hf, hk]; decide
  have o8 : ourB (fieldsM m) m.kind 8 = false := by rw [hf, hk]; decide
  have o9 : ourB (fieldsM m) m.kind 9 = true := by rw [hf, hk]; decide
  have rg : List.range 10 = [0, 1, 2, 3, 4, 5, 6, 7, 8, 9] := rfl
  unfold docB goodM
  rw [badX_fun, rg]
  unfold numB
  simp only [List.all_cons, List.all_nil]
  unfold wideB
  rw [qt, qT, qi, qx, qc, qe, o0, o1, o2, o3, o4, o5, o6, o7, o8, o9]
  clear qt qT qi qx qc qe o0 o1 o2 o3 o4 o5 o6 o7 o8 o9 hf rg
  obtain ⟨kind, frm, born, known, view, last, op, commit, client, number, nonce, text, full, base, state, ents⟩ := m
  dsimp only at *
  subst hk
  
  cases groupB r
  · rfl
  cases hA : ents.any badE
  rotate_left
  · simp [hA]
  cases hB : known.any badN
  rotate_left
  · have hkl : ¬ known.length = 0 := fun h => by rw [List.length_eq_zero_iff.1 h] at hB; cases hB
    simp (config := { decide := true }) only [bareB, wipeM, wipeK, wipeT, emptyB, numsM, senderB, leastB, sizeM, knB, knownB, nonz, badN, if_true, if_false, ite_true, ite_false, List.getD_cons_zero, List.getD_cons_succ, List.any_cons, List.any_nil, Bool.and_true, Bool.true_and, Bool.and_false, Bool.false_and, Bool.or_true, Bool.true_or, Bool.or_false, Bool.false_or, Bool.not_true, Bool.not_false, decide_true, decide_false, List.length_nil]
    rw [Bool.eq_iff_iff]
    simp only [Bool.and_eq_true, Bool.or_eq_true, Bool.not_eq_true', Bool.or_eq_false_iff, Bool.and_eq_false_iff, decide_eq_true_eq, decide_eq_false_iff_not, Bool.not_eq_eq_eq_not, Bool.not_true, Bool.not_false, hB, Bool.true_eq_false, Bool.false_eq_true, false_and, and_false, reduceCtorEq, iff_self]
    try (constructor <;> intro h <;> first | exact h.elim | (exfalso; omega) | omega)
  simp (config := { decide := true }) only [bareB, wipeM, wipeK, wipeT, emptyB, numsM, senderB, leastB, sizeM, knB, knownB, nonz, badN, if_true, if_false, ite_true, ite_false, List.getD_cons_zero, List.getD_cons_succ, List.any_cons, List.any_nil, Bool.and_true, Bool.true_and, Bool.and_false, Bool.false_and, Bool.or_true, Bool.true_or, Bool.or_false, Bool.false_or, Bool.not_true, Bool.not_false, decide_true, decide_false, List.length_nil]
  rw [Bool.eq_iff_iff]
  simp only [Bool.and_eq_true, Bool.or_eq_true, Bool.not_eq_true', Bool.or_eq_false_iff, Bool.and_eq_false_iff, decide_eq_true_eq, decide_eq_false_iff_not, Bool.not_eq_eq_eq_not, Bool.not_true, Bool.not_false]
  cases full
  all_goals simp only [hB, true_and, and_true, false_and, and_false, reduceCtorEq, Bool.false_eq_true, Bool.true_eq_false, not_true_eq_false, not_false_eq_true, or_true, true_or, or_false, false_or, iff_self]
  all_goals try (constructor <;> intro h <;> (repeat' apply And.intro) <;> omega)
theorem doc_eq (m : Msg) (r : Int) : docB m r = goodM m r := by
  by_cases h : 1 ≤ m.kind ∧ m.kind ≤ 12
  · have hk : m.kind = 1 ∨ m.kind = 2 ∨ m.kind = 3 ∨ m.kind = 4 ∨ m.kind = 5 ∨ m.kind = 6 ∨ m.kind = 7 ∨ m.kind = 8 ∨ m.kind = 9 ∨ m.kind = 10 ∨ m.kind = 11 ∨ m.kind = 12 := by omega
    rcases hk with h | h | h | h | h | h | h | h | h | h | h | h
    · exact doc_1 m r h
    · exact doc_2 m r h
    · exact doc_3 m r h
    · exact doc_4 m r h
    · exact doc_5 m r h
    · exact doc_6 m r h
    · exact doc_7 m r h
    · exact doc_8 m r h
    · exact doc_9 m r h
    · cases hf : m.full with
      | true => exact doc_10t m r h hf
      | false => exact doc_10f m r h hf
    · exact doc_11 m r h
    · exact doc_12 m r h
  · have hk : knownB m.kind = false := by
      unfold knownB
      rw [Bool.and_eq_false_iff, decide_eq_false_iff_not, decide_eq_false_iff_not]
      omega
    unfold docB goodM
    rw [hk]
    simp
end Go.Proofs.YtfeelmblnkpfdaaDoor.Ms

namespace Go.Proofs.YtfeelmblnkpfdaaDoor.Ms
open Oct (pb bs rng)
open Go.RowKit
set_option maxRecDepth 100000
set_option linter.unusedSimpArgs false
set_option linter.unusedVariables false

def tailE (m : Msg) : List UInt8 := pb m.base ++ qT m.state ++ pb (m.ents.length : Int) ++ (m.ents.map encE).flatten
def headE (l : List Ent) : Ent := l.headD ⟨0, 0, ⟨#[]⟩⟩
def encC (m : Msg) (c : Int) : List UInt8 :=
  if c = 118 then pb m.view else if c = 108 then pb m.last else if c = 111 then pb m.op else if c = 99 then pb m.commit else if c = 105 then pb m.client else if c = 110 then pb m.number
  else if c = 116 then qT m.text else if c = 101 then encE (headE m.ents) else if c = 120 then pb m.nonce else if c = 102 then [if m.full then 1 else 0] else tailE m
def preD (m : Msg) : List UInt8 := if 1 < m.kind then (pb m.kind ++ (pb m.frm ++ pb m.born)) ++ (m.known.map pb).flatten else pb m.kind
def bodyD (m : Msg) : List UInt8 := preD m ++ ((bs (fieldsM m)).map fun c => encC m (c.toNat : Int)).flatten
theorem body_1 (m : Msg) (hk : m.kind = 1) : bodyD m = bodyM m := by
  have hfl : fieldsM m = ⟨#[105, 110, 116]⟩ := by
    unfold fieldsM
    rw [if_neg (fun h => by rw [hk] at h; exact absurd h.1 (by decide)), hk]; rfl
  have hbs : bs (fieldsM m) = [105, 110, 116] := by rw [hfl]
  unfold bodyD
  rw [hbs]
  simp (config := { decide := true }) [preD, bodyM, showA, kindA, tailA, encA, numAt, txtAt, encC, tailE, hk, List.append_assoc]
theorem body_2 (m : Msg) (hk : m.kind = 2) (r : Int) (hg : Good m r) : bodyD m = bodyM m := by
  have hfl : fieldsM m = ⟨#[118, 111, 99, 101]⟩ := by
    unfold fieldsM
    rw [if_neg (fun h => by rw [hk] at h; exact absurd h.1 (by decide)), hk]; rfl
  have h1 : m.ents.length = 1 := by
    have := hg.size
    unfold sizeM at this
    rw [if_pos hk] at this
    omega
  obtain ⟨y, hy⟩ : ∃ y, m.ents = [y] := by
    match hm : m.ents, h1 with
    | [y], _ => exact ⟨y, rfl⟩
  have hbs : bs (fieldsM m) = [118, 111, 99, 101] := by rw [hfl]
  unfold bodyD
  rw [hbs]
  simp (config := { decide := true }) [preD, bodyM, showA, kindA, tailA, encA, numAt, txtAt, encC, tailE, hk, List.append_assoc, hy, headE]
theorem body_3 (m : Msg) (hk : m.kind = 3) : bodyD m = bodyM m := by
  have hfl : fieldsM m = ⟨#[118, 111]⟩ := by
    unfold fieldsM
    rw [if_neg (fun h => by rw [hk] at h; exact absurd h.1 (by decide)), hk]; rfl
  have hbs : bs (fieldsM m) = [118, 111] := by rw [hfl]
  unfold bodyD
  rw [hbs]
  simp (config := { decide := true }) [preD, bodyM, showA, kindA, tailA, encA, numAt, txtAt, encC, tailE, hk, List.append_assoc]
theorem body_4 (m : Msg) (hk : m.kind = 4) : bodyD m = bodyM m := by
  have hfl : fieldsM m = ⟨#[118, 105, 110, 116]⟩ := by
    unfold fieldsM
    rw [if_neg (fun h => by rw [hk] at h; exact absurd h.1 (by decide)), hk]; rfl
  have hbs : bs (fieldsM m) = [118, 105, 110, 116] := by rw [hfl]
  unfold bodyD
  rw [hbs]
  simp (config := { decide := true }) [preD, bodyM, showA, kindA, tailA, encA, numAt, txtAt, encC, tailE, hk, List.append_assoc]
theorem body_5 (m : Msg) (hk : m.kind = 5) : bodyD m = bodyM m := by
  have hfl : fieldsM m = ⟨#[118, 111, 99]⟩ := by
    unfold fieldsM
    rw [if_neg (fun h => by rw [hk] at h; exact absurd h.1 (by decide)), hk]; rfl
  have hbs : bs (fieldsM m) = [118, 111, 99] := by rw [hfl]
  unfold bodyD
  rw [hbs]
  simp (config := { decide := true }) [preD, bodyM, showA, kindA, tailA, encA, numAt, txtAt, encC, tailE, hk, List.append_assoc]
theorem body_6 (m : Msg) (hk : m.kind = 6) : bodyD m = bodyM m := by
  have hfl : fieldsM m = ⟨#[118]⟩ := by
    unfold fieldsM
    rw [if_neg (fun h => by rw [hk] at h; exact absurd h.1 (by decide)), hk]; rfl
  have hbs : bs (fieldsM m) = [118] := by rw [hfl]
  unfold bodyD
  rw [hbs]
  simp (config := { decide := true }) [preD, bodyM, showA, kindA, tailA, encA, numAt, txtAt, encC, tailE, hk, List.append_assoc]
theorem body_7 (m : Msg) (hk : m.kind = 7) : bodyD m = bodyM m := by
  have hfl : fieldsM m = ⟨#[118, 108, 111, 99, 84]⟩ := by
    unfold fieldsM
    rw [if_neg (fun h => by rw [hk] at h; exact absurd h.1 (by decide)), hk]; rfl
  have hbs : bs (fieldsM m) = [118, 108, 111, 99, 84] := by rw [hfl]
  unfold bodyD
  rw [hbs]
  simp (config := { decide := true }) [preD, bodyM, showA, kindA, tailA, encA, numAt, txtAt, encC, tailE, hk, List.append_assoc]
theorem body_8 (m : Msg) (hk : m.kind = 8) : bodyD m = bodyM m := by
  have hfl : fieldsM m = ⟨#[118, 111, 99, 84]⟩ := by
    unfold fieldsM
    rw [if_neg (fun h => by rw [hk] at h; exact absurd h.1 (by decide)), hk]; rfl
  have hbs : bs (fieldsM m) = [118, 111, 99, 84] := by rw [hfl]
  unfold bodyD
  rw [hbs]
  simp (config := { decide := true }) [preD, bodyM, showA, kindA, tailA, encA, numAt, txtAt, encC, tailE, hk, List.append_assoc]
theorem body_9 (m : Msg) (hk : m.kind = 9) : bodyD m = bodyM m := by
  have hfl : fieldsM m = ⟨#[120]⟩ := by
    unfold fieldsM
    rw [if_neg (fun h => by rw [hk] at h; exact absurd h.1 (by decide)), hk]; rfl
  have hbs : bs (fieldsM m) = [120] := by rw [hfl]
  unfold bodyD
  rw [hbs]
  simp (config := { decide := true }) [preD, bodyM, showA, kindA, tailA, encA, numAt, txtAt, encC, tailE, hk, List.append_assoc]
theorem body_10t (m : Msg) (hk : m.kind = 10) (hf : m.full = true) : bodyD m = bodyM m := by
  have hfl : fieldsM m = ⟨#[118, 120, 102, 111, 99, 84]⟩ := by
    unfold fieldsM
    rw [if_pos ⟨hk, hf⟩]
  have hbs : bs (fieldsM m) = [118, 120, 102, 111, 99, 84] := by rw [hfl]
  unfold bodyD
  rw [hbs]
  simp (config := { decide := true }) [preD, bodyM, showA, kindA, tailA, encA, numAt, txtAt, encC, tailE, hk, List.append_assoc, hf]
theorem body_10f (m : Msg) (hk : m.kind = 10) (hf : m.full = false) : bodyD m = bodyM m := by
  have hfl : fieldsM m = ⟨#[118, 120, 102]⟩ := by
    unfold fieldsM
    rw [if_neg (fun h => by rw [hf] at h; exact absurd h.2 (by decide)), hk]; rfl
  have hbs : bs (fieldsM m) = [118, 120, 102] := by rw [hfl]
  unfold bodyD
  rw [hbs]
  simp (config := { decide := true }) [preD, bodyM, showA, kindA, tailA, encA, numAt, txtAt, encC, tailE, hk, List.append_assoc, hf]
theorem body_11 (m : Msg) (hk : m.kind = 11) : bodyD m = bodyM m := by
  have hfl : fieldsM m = ⟨#[118, 111]⟩ := by
    unfold fieldsM
    rw [if_neg (fun h => by rw [hk] at h; exact absurd h.1 (by decide)), hk]; rfl
  have hbs : bs (fieldsM m) = [118, 111] := by rw [hfl]
  unfold bodyD
  rw [hbs]
  simp (config := { decide := true }) [preD, bodyM, showA, kindA, tailA, encA, numAt, txtAt, encC, tailE, hk, List.append_assoc]
theorem body_12 (m : Msg) (hk : m.kind = 12) : bodyD m = bodyM m := by
  have hfl : fieldsM m = ⟨#[118, 111, 99, 84]⟩ := by
    unfold fieldsM
    rw [if_neg (fun h => by rw [hk] at h; exact absurd h.1 (by decide)), hk]; rfl
  have hbs : bs (fieldsM m) = [118, 111, 99, 84] := by rw [hfl]
  unfold bodyD
  rw [hbs]
  simp (config := { decide := true }) [preD, bodyM, showA, kindA, tailA, encA, numAt, txtAt, encC, tailE, hk, List.append_assoc]
theorem body_eq (m : Msg) (r : Int) (hg : Good m r) : bodyD m = bodyM m := by
  have h1 := hg.k1
  have h2 := hg.k12
  have hk : m.kind = 1 ∨ m.kind = 2 ∨ m.kind = 3 ∨ m.kind = 4 ∨ m.kind = 5 ∨ m.kind = 6 ∨ m.kind = 7 ∨ m.kind = 8 ∨ m.kind = 9 ∨ m.kind = 10 ∨ m.kind = 11 ∨ m.kind = 12 := by omega
  rcases hk with h | h | h | h | h | h | h | h | h | h | h | h
  · exact body_1 m h
  · exact body_2 m h r hg
  · exact body_3 m h
  · exact body_4 m h
  · exact body_5 m h
  · exact body_6 m h
  · exact body_7 m h
  · exact body_8 m h
  · exact body_9 m h
  · cases hf : m.full with
    | true => exact body_10t m h hf
    | false => exact body_10f m h hf
  · exact body_11 m h
  · exact body_12 m h
end Go.Proofs.YtfeelmblnkpfdaaDoor.Ms
