/-
  Layer 21: a reply that was put is got again (plain words).
-/
import Derived.Test.YtbkfbejbloclgaaCmR5
import Derived.Test.YtbkfbejbloclgaaCmR7
import Derived.Test.YtbkfbejbloclgaaCmBk
namespace Go.Proofs.Ytbkfbejbloclgaa.Cm
open Oct (pb bs)
open Mk (gm canon gm_be canon_idem)
set_option maxRecDepth 100000
set_option linter.unusedSimpArgs false
set_option linter.unusedVariables false
theorem bs_mk8 (b : Nat) : bs (mk8 b) = Oct.be 8 (canon b) := by
  show ((Oct.be 8 (canon b)).toArray).toList = _
  simp
theorem readR_put (r : Rep) (h0 : farB r.code = false) (h1 : farB r.line = false) (h2 : farB r.col = false) (h3 : farB r.count = false) (h4 : r.text.size ≤ 65536) (h5 : r.texts.length ≤ 4096) (h6 : ∀ s ∈ r.texts, s.size ≤ 65536) (h7 : r.marks.length ≤ 4096) :
    readR (.ok (qRep r)) = ⟨r.code, r.line, r.col, r.count, bs r.text, r.texts.map bs, (r.marks.map mk8).map bs, .ok []⟩ := by
  have e : qRep r = pb r.code ++ (pb r.line ++ (pb r.col ++ (pb r.count ++ (qText r.text ++ (qTexts r.texts ++ (qTexts (r.marks.map mk8) ++ [])))))) := by
    unfold qRep qMarks
    simp only [qTexts, qNums, List.getD_cons_zero, List.getD_cons_succ, List.nil_append, List.length_map, List.append_assoc, List.append_nil]
  rw [e]
  unfold readR
  rw [Oct.rInt_of _ _ (notFar h0)]
  dsimp only
  rw [Oct.rInt_of _ _ (notFar h1)]
  dsimp only
  rw [Oct.rInt_of _ _ (notFar h2)]
  dsimp only
  rw [Oct.rInt_of _ _ (notFar h3)]
  dsimp only
  rw [Oct.rText_of _ _ _ (eText_some r.text h4)]
  dsimp only
  rw [Oct.rTexts_of r.texts _ _ (eTexts_some r.texts (by omega) h6) 4096 (by omega)]
  dsimp only
  rw [Oct.rTexts_of (r.marks.map mk8) _ _ (eTexts_some (r.marks.map mk8) (by rw [List.length_map]; omega) (fun s hs => by obtain ⟨b, _, rfl⟩ := List.mem_map.1 hs; rw [mk8_size]; decide)) 4096 (by rw [List.length_map]; omega)]
theorem gm_mk8 (b : Nat) (h : b < 18446744073709551616) : gm (bs (mk8 b)) = (canon b, 0) := by
  rw [bs_mk8]
  exact gm_be b h
theorem mkB_mk8 (b : Nat) (h : b < 18446744073709551616) : mkB (bs (mk8 b)) = true := by
  unfold mkB
  exact decide_eq_true (congrArg Prod.snd (gm_mk8 b h))
theorem mksB_put (l : List Nat) (h : ∀ b ∈ l, b < 18446744073709551616) : mksB ((l.map mk8).map bs) = true := by
  induction l with
  | nil => rfl
  | cons b l ih =>
    rw [List.map_cons, List.map_cons]
    unfold mksB
    rw [List.all_cons, mkB_mk8 b (h b (List.mem_cons_self ..)), Bool.true_and]
    exact ih fun x hx => h x (List.mem_cons_of_mem _ hx)
theorem mksOf_put (l : List Nat) (h : ∀ b ∈ l, b < 18446744073709551616) : mksOf ((l.map mk8).map bs) = l.map canon := by
  induction l with
  | nil => rfl
  | cons b l ih =>
    rw [List.map_cons, List.map_cons, List.map_cons]
    unfold mksOf
    rw [List.map_cons, gm_mk8 b (h b (List.mem_cons_self ..))]
    exact congrArg (List.cons (canon b)) (ih fun x hx => h x (List.mem_cons_of_mem _ hx))
theorem mks_put (l : List Nat) (h : ∀ b ∈ l, b < 18446744073709551616) : mksB ((l.map mk8).map bs) = true ∧ mksOf ((l.map mk8).map bs) = l.map canon := ⟨mksB_put l h, mksOf_put l h⟩
def canR (r : Rep) : Rep := ⟨r.code, r.line, r.col, r.count, r.text, r.texts, r.marks.map canon⟩
theorem getR_put (r : Rep) (h0 : farB r.code = false) (h1 : farB r.line = false) (h2 : farB r.col = false) (h3 : farB r.count = false) (h4 : r.text.size ≤ 65536) (h5 : r.texts.length ≤ 4096) (h6 : ∀ s ∈ r.texts, s.size ≤ 65536) (h7 : r.marks.length ≤ 4096) (h8 : ∀ b ∈ r.marks, b < 18446744073709551616) :
    getR (qRep r) = if codeB r.code = true then (canR r, 0) else (zeroR, 2) := by
  have hr := readR_put r h0 h1 h2 h3 h4 h5 h6 h7
  obtain ⟨hm1, hm2⟩ := mks_put r.marks h8
  unfold getR
  rw [hr]
  unfold Q7.err Q7.rep
  dsimp only
  rw [hm1, hm2, Bool.true_and, mkS_bs, map_mkS]
  by_cases hc : codeB r.code = true
  · rw [if_pos hc, hc]
    rfl
  · rw [if_neg hc]
    have hc' : codeB r.code = false := by simpa using hc
    rw [hc']
    rfl
theorem getR_nil : getR [] = (zeroR, 3) := rfl
theorem alike_can (r : Rep) : alikeR (canR r) r = true := by
  unfold alikeR canR
  have e : (r.marks.map canon).map mk8 = r.marks.map mk8 := by
    rw [List.map_map]
    refine List.map_congr_left fun b _ => ?_
    show mk8 (canon b) = mk8 b
    unfold mk8
    rw [canon_idem]
  simp [e]
end Go.Proofs.Ytbkfbejbloclgaa.Cm
