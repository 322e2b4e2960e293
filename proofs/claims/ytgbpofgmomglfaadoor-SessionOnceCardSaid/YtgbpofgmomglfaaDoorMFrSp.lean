/-
  Plain mathematics of frames that were spoilt, cut off, or have something behind.
-/
import Derived.Test.YtgbpofgmomglfaaDoorMFrW
namespace Go.Proofs.YtgbpofgmomglfaaDoor.Crc
set_option maxRecDepth 100000
open Oct (bs gb pb)

/-- Bytes of which k, from the place A on, were turned by x. -/
def sp (l : List UInt8) (A : Nat) (x : Nat → UInt8) : Nat → List UInt8
  | 0 => l
  | k + 1 => (sp l A x k).set (A + k) (l.getD (A + k) 0 ^^^ x k)
theorem sp_len (l : List UInt8) (A : Nat) (x : Nat → UInt8) (k : Nat) : (sp l A x k).length = l.length := by
  induction k with
  | zero => rfl
  | succ k ih => rw [sp, List.length_set, ih]
theorem getD_at (l : List UInt8) (i : Nat) (h : i < l.length) : l.getD i 0 = l[i] := by
  rw [List.getD_eq_getElem?_getD, List.getElem?_eq_getElem h]; rfl
theorem sp_get (l : List UInt8) (A : Nat) (x : Nat → UInt8) (k j : Nat) : (sp l A x k)[j]? = if A ≤ j ∧ j < A + k then l[j]?.map (· ^^^ x (j - A)) else l[j]? := by
  induction k with
  | zero => rw [sp, if_neg (by omega)]
  | succ k ih =>
    rw [sp, List.getElem?_set, sp_len]
    by_cases h : A + k = j
    · subst h
      have hc : A ≤ A + k ∧ A + k < A + (k + 1) := by omega
      rw [if_pos rfl]
      by_cases hl : A + k < l.length
      · rw [if_pos hl, if_pos hc, List.getElem?_eq_getElem hl, getD_at l _ hl, show A + k - A = k from by omega]; rfl
      · rw [if_neg hl, if_pos hc, List.getElem?_eq_none (by omega)]; rfl
    · rw [if_neg h, ih]
      by_cases h2 : A ≤ j ∧ j < A + k
      · rw [if_pos h2, if_pos (by omega)]
      · rw [if_neg h2, if_neg (by omega)]
theorem sp_at (l : List UInt8) (A : Nat) (x : Nat → UInt8) (k : Nat) (h : A + k < l.length) : (sp l A x k)[A + k]? = some (l.getD (A + k) 0) := by
  rw [sp_get, if_neg (by omega), List.getElem?_eq_getElem h, getD_at l _ h]
theorem sp_same (l : List UInt8) (A : Nat) (x : Nat → UInt8) (k : Nat) (h : ∀ i, i < k → x i = 0) : sp l A x k = l := by
  apply List.ext_getElem?
  intro j
  rw [sp_get]
  split
  · rename_i hj
    rw [h (j - A) (by omega)]
    cases l[j]? with
    | none => rfl
    | some c => simp
  · rfl
def chg (x : Nat → UInt8) : Nat → Bool
  | 0 => false
  | k + 1 => chg x k || (x k != 0)
theorem chg_false {x : Nat → UInt8} {k : Nat} (h : chg x k = false) : ∀ i, i < k → x i = 0 := by
  induction k with
  | zero => intro i hi; omega
  | succ k ih =>
    rw [chg, Bool.or_eq_false_iff] at h
    intro i hi
    by_cases he : i = k
    · subst he; simpa using h.2
    · exact ih h.1 i (by omega)
theorem chg_true {x : Nat → UInt8} {k : Nat} (h : chg x k = true) : ∃ i, i < k ∧ x i ≠ 0 := by
  induction k with
  | zero => cases h
  | succ k ih =>
    rw [chg, Bool.or_eq_true] at h
    rcases h with h | h
    · obtain ⟨i, hi, hx⟩ := ih h; exact ⟨i, by omega, hx⟩
    · exact ⟨k, by omega, by simpa using h⟩

theorem op_none (l : List UInt8) (h : (op l).2 ≠ 0) : (op l).1 = [] := by
  unfold op at h ⊢
  split
  · rfl
  · split
    · rfl
    · split
      · rfl
      · split
        · rfl
        · split
          · rfl
          · split
            · rename_i h1 h2 h3 h4 h5 h6
              rw [if_neg h1, if_neg h2, if_neg h3, if_neg h4, if_neg h5, if_pos h6] at h
              exact absurd rfl h
            · rfl
/-- What is opened bears its sum. -/
theorem op_right (l : List UInt8) (h : (op l).2 = 0) : ∃ m, m.length + 4 = l.length ∧ l = m ++ le4 (sum m) := by
  unfold op at h
  split at h
  · rename_i h1; exact absurd h h1
  · split at h
    · cases h
    · split at h
      · cases h
      · split at h
        · cases h
        · split at h
          · cases h
          · split at h
            · rename_i h4 h5 h6
              refine ⟨l.take ((gb l).2.1 + (gb l).1.toNat), ?_, ?_⟩
              · rw [List.length_take]; omega
              · rw [← h6, List.take_append_drop]
            · cases h

/-- A frame in which one byte to four in a row were turned isn't opened. -/
theorem spoilt (b : List UInt8) (hb : b.length ≤ 1048576) (A : Nat) (x : Nat → UInt8) (m : Nat) (hm : m ≤ 4) (hA : A + m ≤ (wr b).length) (hc : chg x m = true) : (op (sp (wr b) A x m)).2 ≠ 0 := by
  intro h
  obtain ⟨l', -, hl'⟩ := op_right _ h
  have hw : wr b = (pb b.length ++ b) ++ le4 (sum (pb b.length ++ b)) := by rw [wr, if_neg (by omega)]
  obtain ⟨i, hi, hx⟩ := chg_true hc
  have cut : ∀ l : List UInt8, l = l.take A ++ ((l.drop A).take m ++ l.drop (A + m)) := fun l => by
    rw [← List.drop_drop, List.take_append_drop, List.take_append_drop]
  have e1 : (sp (wr b) A x m).take A = (wr b).take A := by
    apply List.ext_getElem?
    intro j
    rw [List.getElem?_take, List.getElem?_take]
    split
    · rw [sp_get, if_neg (by omega)]
    · rfl
  have e2 : (sp (wr b) A x m).drop (A + m) = (wr b).drop (A + m) := by
    apply List.ext_getElem?
    intro j
    rw [List.getElem?_drop, List.getElem?_drop, sp_get, if_neg (by omega)]
  have h1 := cut (sp (wr b) A x m)
  rw [e1, e2] at h1
  have h2 := cut (wr b)
  have hlen : (((wr b).drop A).take m).length = (((sp (wr b) A x m).drop A).take m).length := by
    simp only [List.length_take, List.length_drop, sp_len]
  have hu := apart ((wr b).take A) _ _ ((wr b).drop (A + m)) _ l' hlen (by rw [List.length_take]; omega) (h2.symm.trans hw) (h1.symm.trans hl')
  have hj := congrArg (·[i]?) hu
  simp only [List.getElem?_take, List.getElem?_drop, sp_get] at hj
  rw [if_pos hi, if_pos hi, if_pos (by omega), show A + i - A = i from by omega, List.getElem?_eq_getElem (show A + i < (wr b).length by omega)] at hj
  simp only [Option.map_some, Option.some.injEq] at hj
  apply hx
  have h3 := congrArg (((wr b)[A + i]'(by omega)) ^^^ ·) hj
  simp only [UInt8.xor_self, ← UInt8.xor_assoc, UInt8.zero_xor] at h3
  exact h3.symm

/-- Of a number's bytes the first ones alone: it ends too early. -/
theorem gb_cut8 (n : Nat) (hn : n ≤ 1048576) (j : Nat) (hj : j < (pb (n : Int)).length) : gb ((pb (n : Int)).take j) = (0, 0, 3) := by
  have hw := Oct.wid7 (n : Int).natAbs (by omega)
  have hf := Oct.first_toNat false (Oct.wid (n : Int).natAbs) hw
  have hp : pb (n : Int) = UInt8.ofNat (0 + Oct.wid (n : Int).natAbs) :: Oct.be (Oct.wid (n : Int).natAbs) (n : Int).natAbs := by rw [pb, if_neg (by omega), if_neg (by omega)]
  rw [hp] at hj ⊢
  simp only [List.length_cons, Oct.be_length] at hj
  cases j with
  | zero => rfl
  | succ i =>
    have hf' : (UInt8.ofNat (0 + Oct.wid (n : Int).natAbs)).toNat = Oct.wid (n : Int).natAbs := by simpa using hf
    simp only [List.take_succ_cons, gb, hf', List.length_take, Oct.be_length]
    rw [if_neg (by omega), if_pos (by omega)]

/-- A frame that was cut off isn't opened. -/
theorem op_cut (b : List UInt8) (hb : b.length ≤ 1048576) (A : Nat) (hA : A < (wr b).length) : op ((wr b).take A) = ([], 3) := by
  have hl := wr_len b hb
  have hw : wr b = pb b.length ++ (b ++ le4 (sum (pb b.length ++ b))) := by rw [wr, if_neg (by omega), List.append_assoc]
  by_cases h : A < (pb (b.length : Int)).length
  · have : (wr b).take A = (pb (b.length : Int)).take A := by rw [hw, List.take_append_of_le_length (by omega)]
    rw [this, op, gb_cut8 _ hb A h, if_pos (by simp)]
  · have hg : gb ((wr b).take A) = ((b.length : Int), (pb b.length).length, 0) := by
      rw [hw, List.take_append, List.take_of_length_le (by omega)]
      exact Oct.gb_pb _ _ (by omega)
    unfold op
    rw [hg]
    simp only [Int.toNat_natCast]
    rw [if_neg (by simp), if_neg (by omega), if_neg (by omega), if_pos (by rw [List.length_take]; omega)]
/-- A frame with something behind it isn't opened. -/
theorem op_tail (b r : List UInt8) (hb : b.length ≤ 1048576) (hr : 0 < r.length) : op (wr b ++ r) = ([], 4) := by
  have hl := wr_len b hb
  have hg := gb_wr b r hb
  unfold op
  rw [hg]
  simp only [Int.toNat_natCast]
  rw [if_neg (by simp), if_neg (by omega), if_neg (by omega), if_neg (by rw [List.length_append]; omega), if_pos (by rw [List.length_append]; omega)]

end Go.Proofs.YtgbpofgmomglfaaDoor.Crc
