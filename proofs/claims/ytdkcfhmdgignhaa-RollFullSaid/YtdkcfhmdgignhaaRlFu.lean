/-
  Layer 18: RollFull in plain words: as many members and classes as there may be.
-/
import Derived.Test.YtdkcfhmdgignhaaRlBack
import Derived.Test.YtdkcfhmdgignhaaRlTn
namespace Go.Proofs.Ytdkcfhmdgignhaa.Rl
open Lx (bs)
set_option maxRecDepth 100000
set_option linter.unusedSimpArgs false
set_option linter.unusedVariables false
def nB (i : Nat) : ByteArray := ⟨#[UInt8.ofNat (97 + i / 26 % 26), UInt8.ofNat (97 + i % 26), 120]⟩
def kB (i : Nat) : ByteArray := ⟨#[99, UInt8.ofNat (97 + i / 26), UInt8.ofNat (97 + i % 26)]⟩
theorem ofNat_inj {a b : Nat} (ha : a < 256) (hb : b < 256) (h : UInt8.ofNat a = UInt8.ofNat b) : a = b := by
  have := congrArg UInt8.toNat h
  simpa [Nat.mod_eq_of_lt ha, Nat.mod_eq_of_lt hb] using this
theorem nB_inj {i j : Nat} (hi : i < 676) (hj : j < 676) (h : nB i = nB j) : i = j := by
  have h1 : (nB i).data.toList = (nB j).data.toList := by rw [h]
  simp only [nB, List.cons.injEq, and_true] at h1
  have e1 := ofNat_inj (by omega) (by omega) h1.1
  have e2 := ofNat_inj (by omega) (by omega) h1.2
  omega
theorem kB_inj {i j : Nat} (hi : i < 34) (hj : j < 34) (h : kB i = kB j) : i = j := by
  have h1 : (kB i).data.toList = (kB j).data.toList := by rw [h]
  simp only [kB, List.cons.injEq, and_true, true_and] at h1
  have e1 := ofNat_inj (by omega) (by omega) h1.1
  have e2 := ofNat_inj (by omega) (by omega) h1.2
  omega
theorem kB_good : ∀ i, i < 34 → Lx.goodB (bs (kB i)) = true := by decide +kernel
theorem nB_good : ∀ i, i < 266 → Lx.goodB (bs (nB i)) = true := by decide +kernel
theorem nB_zero : nB 0 = ⟨#[97, 97, 120]⟩ := by rfl
/-- What stands behind i enrolments and j openings. -/
structure Fu (i j : Nat) (r : Rol) : Prop where
  names : Rising r.names
  classes : Rising r.classes
  mem : ∀ m, m ∈ r.ms ↔ ∃ k, k < i ∧ m = ⟨nB k, 2, 4096⟩
  cls : ∀ c, c ∈ r.cs ↔ ∃ k, k < j ∧ c = ⟨kB k, nB 0, []⟩
  lm : r.ms.length = i
  lc : r.cs.length = j
theorem Fu.sized {i j : Nat} {r : Rol} (h : Fu i j r) (hi : i ≤ 4000) (hj : j ≤ 4000) : Sized r :=
  ⟨by rw [h.lm]; exact hi, by rw [h.lc]; exact hj, fun c hc => by obtain ⟨k, _, rfl⟩ := (h.cls c).1 hc; exact Nat.zero_le _, h.names, h.classes, fun c hc => by obtain ⟨k, _, rfl⟩ := (h.cls c).1 hc; exact List.Pairwise.nil⟩
theorem fu_nil : Fu 0 0 ⟨[], []⟩ := ⟨List.Pairwise.nil, List.Pairwise.nil, fun m => ⟨fun h => absurd h (by simp), fun ⟨k, h, _⟩ => absurd h (by omega)⟩, fun m => ⟨fun h => absurd h (by simp), fun ⟨k, h, _⟩ => absurd h (by omega)⟩, rfl, rfl⟩
theorem Fu.no_name {i j : Nat} {r : Rol} (h : Fu i j r) {k : Nat} (hk : i ≤ k) (hk2 : k < 676) (hi : i ≤ 676) : ¬ hasN r.names (nB k) = true := fun e => by
  obtain ⟨m, hm, e1⟩ := List.mem_map.1 (hasN_iff.1 e)
  obtain ⟨k', hk', rfl⟩ := (h.mem m).1 hm
  have := nB_inj (by omega) hk2 e1
  omega
theorem Fu.no_cls {i j : Nat} {r : Rol} (h : Fu i j r) {k : Nat} (hk : j ≤ k) (hk2 : k < 34) : ¬ hasN r.classes (kB k) = true := fun e => by
  obtain ⟨m, hm, e1⟩ := List.mem_map.1 (hasN_iff.1 e)
  obtain ⟨k', hk', rfl⟩ := (h.cls m).1 hm
  have := kB_inj (by omega) hk2 e1
  omega
/-- One member more. -/
theorem Fu.enrol {i : Nat} {r : Rol} (h : Fu i 0 r) (hi : i < 256) : ∃ r', enrolM r (nB i) 2 = .ok r' ∧ Fu (i + 1) 0 r' := by
  have hn := h.no_name (Nat.le_refl i) (by omega) (by omega)
  have hl := h.lm
  unfold enrolM
  rw [if_neg (by rw [nB_good i (by omega)]; decide), if_neg (by decide), if_neg hn, if_neg (by omega)]
  refine ⟨_, rfl, ?_, h.classes, fun m => ?_, h.cls, ?_, h.lc⟩
  · show Rising ((r.ms.take (plc r.names (nB i)) ++ [(⟨nB i, 2, 4096⟩ : Mem)] ++ r.ms.drop (plc r.names (nB i))).map (·.name))
    rw [map_ins]
    exact rising_ins h.names (notMem hn)
  · refine (mem_ins r.ms _ _ m).trans ⟨fun e => ?_, fun ⟨k, hk, e⟩ => ?_⟩
    · rcases e with e | e
      · exact ⟨i, by omega, e⟩
      · obtain ⟨k, hk, e2⟩ := (h.mem m).1 e
        exact ⟨k, by omega, e2⟩
    · by_cases hki : k = i
      · subst hki; exact .inl e
      · exact .inr ((h.mem m).2 ⟨k, by omega, e⟩)
  · show (r.ms.take (plc r.names (nB i)) ++ [(⟨nB i, 2, 4096⟩ : Mem)] ++ r.ms.drop (plc r.names (nB i))).length = _
    rw [ins_length]; omega
/-- No member more than there may be. -/
theorem Fu.enough {k : Nat} {r : Rol} (h : Fu 256 0 r) (hk : 256 ≤ k) (hk2 : k < 266) : enrolM r (nB k) 2 = .error 12 := by
  have hn := h.no_name hk (by omega) (by omega)
  have hl := h.lm
  unfold enrolM
  rw [if_neg (by rw [nB_good k hk2]; decide), if_neg (by decide), if_neg hn, if_pos (by omega)]
theorem Fu.head {i j : Nat} {r : Rol} (h : Fu i j r) (hi : 0 < i) : hasN r.names (nB 0) = true ∧ findM r (nB 0) = ⟨nB 0, 2, 4096⟩ := by
  have := who h.names ((h.mem ⟨nB 0, 2, 4096⟩).2 ⟨0, hi, rfl⟩)
  exact this
theorem Fu.open_ {i j : Nat} {r : Rol} (h : Fu i j r) (hi : 0 < i) (hj : j < 32) : ∃ r', openM r (kB j) (nB 0) = .ok r' ∧ Fu i (j + 1) r' := by
  have hn := h.no_cls (Nat.le_refl j) (by omega)
  have hl := h.lc
  obtain ⟨w1, w2⟩ := h.head hi
  unfold openM
  rw [if_neg (by rw [kB_good j (by omega)]; decide), if_neg hn, if_neg (by rw [w1]; decide), w2, if_pos rfl, if_neg (by omega)]
  refine ⟨_, rfl, h.names, ?_, h.mem, fun c => ?_, h.lm, ?_⟩
  · show Rising ((r.cs.take (plc r.classes (kB j)) ++ [(⟨kB j, nB 0, []⟩ : Cls)] ++ r.cs.drop (plc r.classes (kB j))).map (·.name))
    rw [map_ins]
    exact rising_ins h.classes (notMem hn)
  · refine (mem_ins r.cs _ _ c).trans ⟨fun e => ?_, fun ⟨k, hk, e⟩ => ?_⟩
    · rcases e with e | e
      · exact ⟨j, by omega, e⟩
      · obtain ⟨k, hk, e2⟩ := (h.cls c).1 e
        exact ⟨k, by omega, e2⟩
    · by_cases hki : k = j
      · subst hki; exact .inl e
      · exact .inr ((h.cls c).2 ⟨k, by omega, e⟩)
  · show (r.cs.take (plc r.classes (kB j)) ++ [(⟨kB j, nB 0, []⟩ : Cls)] ++ r.cs.drop (plc r.classes (kB j))).length = _
    rw [ins_length]; omega
theorem Fu.enough_cls {i k : Nat} {r : Rol} (h : Fu i 32 r) (hi : 0 < i) (hk : 32 ≤ k) (hk2 : k < 34) : openM r (kB k) (nB 0) = .error 12 := by
  have hn := h.no_cls hk hk2
  have hl := h.lc
  obtain ⟨w1, w2⟩ := h.head hi
  unfold openM
  rw [if_neg (by rw [kB_good k hk2]; decide), if_neg hn, if_neg (by rw [w1]; decide), w2, if_pos rfl, if_pos (by omega)]
theorem all_false {α : Type} (l : List α) (d : α) (f : α → Bool) (h : ∀ x ∈ l, f x = true) : (List.range l.length).any (fun i => !f (l.getD i d)) = false := by
  rw [Bool.eq_false_iff]
  intro e
  obtain ⟨i, hi, h2⟩ := List.any_eq_true.1 e
  have hi2 := List.mem_range.1 hi
  rw [List.getD_eq_getElem?_getD, List.getElem?_eq_getElem hi2] at h2
  have := h _ (List.getElem_mem hi2)
  simp only [Option.getD_some] at h2
  rw [this] at h2
  cases h2
theorem Fu.ok {i : Nat} {r : Rol} (h : Fu i 32 r) (hi : 0 < i) (hi2 : i ≤ 256) : okR r = true := by
  obtain ⟨w1, w2⟩ := h.head hi
  unfold okR
  rw [risB_ris.2 h.names, risB_ris.2 h.classes, all_false r.ms _ okM (fun m hm => ?_), all_false r.cs nilC (okC r) (fun c hc => ?_)]
  · rfl
  · obtain ⟨k, hk, rfl⟩ := (h.cls c).1 hc
    unfold okC hasR
    simp only
    rw [kB_good k (by omega), w1, w2]
    rfl
  · obtain ⟨k, hk, rfl⟩ := (h.mem m).1 hm
    unfold okM
    simp only
    rw [nB_good k (by omega)]
    rfl
open Oct (app eText eInt eTexts)
theorem app_is {a b : Option (List UInt8)} (ha : a ≠ none) (hb : b ≠ none) : app a b ≠ none := by
  cases a with
  | none => exact absurd rfl ha
  | some x =>
    cases b with
    | none => exact absurd rfl hb
    | some y => exact fun h => by cases h
theorem eInt_is {n : Int} (h : 0 ≤ n ∧ n ≤ 100000) : eInt n ≠ none := by
  unfold Oct.eInt
  rw [if_neg (by unfold Oct.rng; omega)]
  exact fun h => by cases h
theorem eText_is {l : List UInt8} (h : l.length ≤ 100) : eText l ≠ none := by
  unfold Oct.eText Oct.eLen
  refine app_is ?_ (fun h => by cases h)
  rw [if_neg (by omega)]
  exact eInt_is ⟨by omega, by omega⟩
theorem Fu.put {i : Nat} {r : Rol} (h : Fu i 32 r) (hi2 : i ≤ 256) : ∃ e, putR r = some e := by
  have hm : ∀ k, pMems r.ms k ≠ none := fun k => by
    induction k with
    | zero => exact fun h => by cases h
    | succ k ih =>
      refine app_is ih ?_
      have hg : r.ms.getD k ⟨⟨#[]⟩, 0, 0⟩ = ⟨⟨#[]⟩, 0, 0⟩ ∨ ∃ z, r.ms.getD k ⟨⟨#[]⟩, 0, 0⟩ = ⟨nB z, 2, 4096⟩ := by
        rcases Nat.lt_or_ge k r.ms.length with h1 | h1
        · have e : r.ms.getD k ⟨⟨#[]⟩, 0, 0⟩ = r.ms[k] := by rw [List.getD_eq_getElem?_getD, List.getElem?_eq_getElem h1]; rfl
          obtain ⟨z, _, e2⟩ := (h.mem _).1 (List.getElem_mem h1)
          exact .inr ⟨z, e.trans e2⟩
        · exact .inl (by rw [List.getD_eq_getElem?_getD, List.getElem?_eq_none h1]; rfl)
      rcases hg with hg | ⟨z, hg⟩ <;> rw [hg] <;> unfold pMem
      · exact app_is (app_is (eText_is (by decide)) (eInt_is ⟨by decide, by decide⟩)) (eInt_is ⟨by decide, by decide⟩)
      · exact app_is (app_is (eText_is (by show (3 : Nat) ≤ 100; decide)) (eInt_is ⟨by show (0 : Int) ≤ 2; decide, by show (2 : Int) ≤ 100000; decide⟩)) (eInt_is ⟨by show (0 : Int) ≤ 4096; decide, by show (4096 : Int) ≤ 100000; decide⟩)
  have ht : eTexts [] ≠ none := by decide
  have hc : ∀ k, pClss r.cs k ≠ none := fun k => by
    induction k with
    | zero => exact fun h => by cases h
    | succ k ih =>
      refine app_is ih ?_
      have hg : r.cs.getD k ⟨⟨#[]⟩, ⟨#[]⟩, []⟩ = ⟨⟨#[]⟩, ⟨#[]⟩, []⟩ ∨ ∃ z, r.cs.getD k ⟨⟨#[]⟩, ⟨#[]⟩, []⟩ = ⟨kB z, nB 0, []⟩ := by
        rcases Nat.lt_or_ge k r.cs.length with h1 | h1
        · have e : r.cs.getD k ⟨⟨#[]⟩, ⟨#[]⟩, []⟩ = r.cs[k] := by rw [List.getD_eq_getElem?_getD, List.getElem?_eq_getElem h1]; rfl
          obtain ⟨z, _, e2⟩ := (h.cls _).1 (List.getElem_mem h1)
          exact .inr ⟨z, e.trans e2⟩
        · exact .inl (by rw [List.getD_eq_getElem?_getD, List.getElem?_eq_none h1]; rfl)
      rcases hg with hg | ⟨z, hg⟩ <;> rw [hg] <;> unfold pCls
      · exact app_is (app_is (eText_is (by decide)) (eText_is (by decide))) ht
      · exact app_is (app_is (eText_is (by show (3 : Nat) ≤ 100; decide)) (eText_is (by show (3 : Nat) ≤ 100; decide))) ht
  have hp : putR r ≠ none := by
    have := h.lm; have := h.lc
    exact app_is (app_is (eInt_is ⟨by omega, by omega⟩) (hm _)) (app_is (eInt_is ⟨by omega, by omega⟩) (hc _))
  cases hq : putR r with
  | none => exact absurd hq hp
  | some e => exact ⟨e, rfl⟩
/-- What is put of a full roll is got again. -/
theorem Fu.back {i : Nat} {r : Rol} (h : Fu i 32 r) (hi : 0 < i) (hi2 : i ≤ 256) : getR ((putR r).getD []) = .ok r := by
  obtain ⟨e, he⟩ := h.put hi2
  rw [he]
  exact get_put r (by rw [h.lm]; exact hi2) (by rw [h.lc]; exact Nat.le_refl _) (fun c hc => by obtain ⟨k, _, rfl⟩ := (h.cls c).1 hc; exact Nat.zero_le _) (h.ok hi hi2) e he
end Go.Proofs.Ytdkcfhmdgignhaa.Rl
