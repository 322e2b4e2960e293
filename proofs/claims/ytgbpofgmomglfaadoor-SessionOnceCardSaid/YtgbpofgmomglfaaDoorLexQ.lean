/-
  That a long region may be walked in the order of its text, by a check that goes once over its pairs of operations.
-/
import Derived.Test.YtgbpofgmomglfaaDoorLooseD
namespace Go.Proofs.YtgbpofgmomglfaaDoor.LooseD
open Go
def restQ (md : Region.Mode) (ops : Array Oper) (k : Nat) (o : Oper) (r : List Oper) : Bool :=
  r.all fun oj => oj.after.any (fun e => Region.binds md e && e.on == k) || o.apart ops oj
def lexQ (md : Region.Mode) (ops : Array Oper) : Nat → List Oper → Bool
  | _, [] => true
  | k, o :: r => o.after.all (fun e => !Region.binds md e || decide (e.on < k)) && (restQ md ops k o r && lexQ md ops (k + 1) r)
theorem lexFrom_of (md : Region.Mode) (ops : Array Oper) : ∀ (l : List Oper) (k : Nat) (listed : Array Bool), (∀ j, l[j]? = ops[k + j]?) → k + l.length = ops.size → listed.size = ops.size →
    (∀ j, listed.getD j true = (decide (j < k) || decide (ops.size ≤ j))) → lexQ md ops k l = true → Region.lexFrom md ops l.length k listed = true
  | [], k, listed, hl, hsz, hz, hli, h => by
    show (Region.ready md ops listed).isEmpty = true
    rw [List.isEmpty_iff, List.eq_nil_iff_forall_not_mem]
    intro i hi
    have h1 := (mem_ready.1 hi).1
    have h2 := hli i
    have hk : k = ops.size := by simpa using hsz
    have h3 : (decide (i < k) || decide (ops.size ≤ i)) = true := by
      rw [Bool.or_eq_true, decide_eq_true_eq, decide_eq_true_eq]; omega
    rw [h3] at h2
    rw [h2] at h1
    cases h1
  | o :: l, k, listed, hl, hsz, hz, hli, h => by
    have h0 : ops[k]? = some o := by simpa using (hl 0).symm
    have hsz2 : k + 1 + l.length = ops.size := by rw [← hsz, List.length_cons]; omega
    unfold lexQ at h
    rw [Bool.and_eq_true, Bool.and_eq_true] at h
    obtain ⟨ha, hr, hq⟩ := h
    show ((Region.ready md ops listed).contains k && Region.free md ops listed k && Region.lexFrom md ops l.length (k + 1) (listed.setIfInBounds k true)) = true
    rw [Bool.and_eq_true, Bool.and_eq_true]
    refine ⟨⟨?_, ?_⟩, ?_⟩
    · rw [List.contains_iff_mem]
      refine mem_ready.2 ⟨?_, o, h0, fun e he hb => ?_⟩
      · rw [hli k]
        have h1 : decide (k < k) = false := decide_eq_false (by omega)
        have h2 : decide (ops.size ≤ k) = false := decide_eq_false (by omega)
        rw [h1, h2]; rfl
      · obtain ⟨i, hi, rfl⟩ := Array.getElem_of_mem he
        have := Array.all_eq_true.1 ha i hi
        rw [hb] at this
        have h3 : o.after[i].on < k := by simpa using this
        have hon : o.after[i].on < listed.size := by
          have : k < ops.size := by rw [← hsz2]; omega
          omega
        have h4 := hli o.after[i].on
        rw [decide_eq_true h3, Bool.true_or] at h4
        simpa [hon] using h4
    · unfold Region.free
      rw [h0]
      rw [List.all_eq_true]
      intro j hj
      have hj2 : j < ops.size := List.mem_range.1 hj
      by_cases hjk : j = k
      · subst hjk; simp
      · by_cases hlt : j < k
        · have : listed.getD j true = true := by rw [hli, decide_eq_true hlt]; rfl
          rw [this]; simp
        · have hgt : k < j := by omega
          obtain ⟨d, rfl⟩ : ∃ d, j = k + (d + 1) := ⟨j - k - 1, by omega⟩
          have hd : l[d]? = ops[k + (d + 1)]? := by have := hl (d + 1); simpa using this
          have hdl : d < l.length := by omega
          rw [← hd, List.getElem?_eq_getElem hdl]
          have := List.all_eq_true.1 hr l[d] (List.getElem_mem hdl)
          simp only at this ⊢
          rw [this]; simp
    · refine lexFrom_of md ops l (k + 1) _ (fun j => ?_) hsz2 (by simpa using hz) (fun j => ?_) hq
      · have := hl (j + 1)
        rw [show k + 1 + j = k + (j + 1) by omega]
        simpa using this
      · by_cases hjk : k = j
        · subst hjk
          have : (decide (k < k + 1) || decide (ops.size ≤ k)) = true := by rw [decide_eq_true (by omega)]; rfl
          rw [this]
          by_cases hks : k < listed.size
          · simp [hks]
          · simp [hks]
        · rw [getD_set_ne true hjk, hli]
          have : decide (j < k) = decide (j < k + 1) := by
            by_cases h1 : j < k
            · rw [decide_eq_true h1, decide_eq_true (by omega)]
            · rw [decide_eq_false h1, decide_eq_false (by omega)]
          rw [this]
theorem lexB_of (md : Region.Mode) (l : List Oper) (hs : Region.noSelect l.toArray = true) (h : lexQ md l.toArray 0 l = true) : Region.lexB md l.toArray = true := by
  unfold Region.lexB
  rw [hs, Bool.true_and]
  have := lexFrom_of md l.toArray l 0 (Array.replicate l.toArray.size false) (fun j => by simp) (by simp) (by simp) (fun j => by
    by_cases h1 : j < l.length
    · have h2 : decide (l.toArray.size ≤ j) = false := decide_eq_false (by simp; omega)
      rw [decide_eq_false (by omega), h2]
      simp [h1]
    · have h2 : decide (l.toArray.size ≤ j) = true := decide_eq_true (by simp; omega)
      rw [h2, Bool.or_true]
      simp [h1]) h
  simpa using this
end Go.Proofs.YtgbpofgmomglfaaDoor.LooseD
