/-
  Layer 18, pure: what the document calls right is what the program calls right.
-/
import Derived.Test.YtnmhgjoofgmcgaaRlRRt
import Derived.Test.YtnmhgjoofgmcgaaRlInv
namespace Go.Proofs.Ytnmhgjoofgmcgaa.Rl
open Go.RowKit
open Lx (bs)
set_option maxRecDepth 100000
set_option linter.unusedSimpArgs false
set_option linter.unusedVariables false
theorem role_is {r : Rol} (hs : Rising r.names) (nm : ByteArray) (k : Int) (hk : k ≠ 0) : decide (roleL r.ms nm = k) = hasR r nm k := by
  unfold hasR roleL
  cases hh : hasN r.names nm with
  | true =>
    obtain ⟨f1, f2⟩ := find_in hs hh
    have hx : findL r.ms nm = some (findM r nm) := by
      cases hf : findL r.ms nm with
      | none =>
        have := List.find?_eq_none.1 hf _ f1
        simp [f2] at this
      | some x =>
        have h1 := List.mem_of_find?_eq_some hf
        have h2 := List.find?_some hf
        rw [rising_eq (fun m : Mem => m.name) (show Rising (r.ms.map fun m => m.name) from hs) f1 h1 (f2.trans (of_decide_eq_true h2).symm)]
    rw [hx]; rfl
  | false =>
    have hx : findL r.ms nm = none := List.find?_eq_none.2 fun x hx h => by
      have : hasN r.names nm = true := hasN_iff.2 (List.mem_map.2 ⟨x, hx, of_decide_eq_true h⟩)
      rw [hh] at this; cases this
    rw [hx]
    exact decide_eq_false fun h => hk h.symm
theorem all_iff {n : Nat} {p : Nat → Bool} : (List.range n).all p = true ↔ ∀ k, k < n → p k = true := by
  rw [List.all_eq_true]
  exact ⟨fun h k hk => h k (List.mem_range.2 hk), fun h k hk => h k (List.mem_range.1 hk)⟩
theorem none_iff {n : Nat} {p : Nat → Bool} : (!(List.range n).any fun i => !p i) = true ↔ ∀ k, k < n → p k = true := by
  rw [Bool.not_eq_true', Bool.eq_false_iff]
  constructor
  · intro h k hk
    cases hp : p k
    · exact absurd (List.any_eq_true.2 ⟨k, List.mem_range.2 hk, by rw [hp]; rfl⟩) h
    · rfl
  · intro h h2
    obtain ⟨k, hk, h3⟩ := List.any_eq_true.1 h2
    rw [h k (List.mem_range.1 hk)] at h3
    cases h3
theorem step_iff (f : Nat → ByteArray) (n : Nat) : (∀ k, k < n → (decide (k = 0) || decide (cmpN (f (k - 1)) (f k) < 0)) = true) ↔ ∀ k, k + 1 < n → cmpN (f k) (f (k + 1)) < 0 := by
  constructor
  · intro h k hk
    simpa using h (k + 1) hk
  · intro h k hk
    cases k with
    | zero => rfl
    | succ k => simpa using h k hk
theorem names_getD (r : Rol) (k : Nat) : r.names.getD k ⟨#[]⟩ = (r.ms.getD k nilM).name := by
  unfold Rol.names
  rw [List.getD_eq_getElem?_getD, List.getD_eq_getElem?_getD, List.getElem?_map]
  cases r.ms[k]? <;> rfl
theorem classes_getD (r : Rol) (k : Nat) : r.classes.getD k ⟨#[]⟩ = (r.cs.getD k nilC).name := by
  unfold Rol.classes
  rw [List.getD_eq_getElem?_getD, List.getD_eq_getElem?_getD, List.getElem?_map]
  cases r.cs[k]? <;> rfl
theorem rm_is (l : List Mem) (k : Nat) : rmB l k = (okM (l.getD k nilM) && (decide (k = 0) || decide (cmpN (l.getD (k - 1) nilM).name (l.getD k nilM).name < 0))) := by
  unfold rmB okM
  have h : decide (1 ≤ (l.getD k nilM).role ∧ (l.getD k nilM).role ≤ 2) = decide ((l.getD k nilM).role = 1 ∨ (l.getD k nilM).role = 2) := by
    rw [decide_eq_decide]; omega
  rw [h]
theorem ms_right (r : Rol) : (List.range r.ms.length).all (rmB r.ms) = (risB r.names && !((List.range r.ms.length).any fun i => !okM (r.ms.getD i nilM))) := by
  rw [Bool.eq_iff_iff, Bool.and_eq_true, all_iff, none_iff, risB_iff]
  have hl : r.names.length = r.ms.length := by simp [Rol.names]
  have hst := step_iff (fun k => (r.ms.getD k nilM).name) r.ms.length
  simp only [names_getD, hl, ← hst, rm_is, Bool.and_eq_true]
  exact ⟨fun h => ⟨fun k hk => (h k hk).2, fun k hk => (h k hk).1⟩, fun h k hk => ⟨h.2 k hk, h.1 k hk⟩⟩
theorem rc_is {r : Rol} (hs : Rising r.names) (k : Nat) : rcB r.ms r.cs k = (okC r (r.cs.getD k nilC) && (decide (k = 0) || decide (cmpN (r.cs.getD (k - 1) nilC).name (r.cs.getD k nilC).name < 0))) := by
  unfold rcB okC
  obtain ⟨c, hc⟩ : ∃ c, c = r.cs.getD k nilC := ⟨_, rfl⟩
  rw [← hc, role_is hs _ _ (by decide)]
  have hst : (List.range c.studs.length).all (rsB r.ms c.studs) = (risB c.studs && !((List.range c.studs.length).any fun i => !hasR r (c.studs.getD i ⟨#[]⟩) 1)) := by
    rw [Bool.eq_iff_iff, Bool.and_eq_true, all_iff, none_iff, risB_iff, ← step_iff (fun k => c.studs.getD k ⟨#[]⟩)]
    have hb : ∀ i, rsB r.ms c.studs i = (hasR r (c.studs.getD i ⟨#[]⟩) 1 && (decide (i = 0) || decide (cmpN (c.studs.getD (i - 1) ⟨#[]⟩) (c.studs.getD i ⟨#[]⟩) < 0))) := fun i => by unfold rsB; rw [role_is hs _ _ (by decide)]
    simp only [hb, Bool.and_eq_true]
    exact ⟨fun h => ⟨fun k hk => (h k hk).2, fun k hk => (h k hk).1⟩, fun h k hk => ⟨h.2 k hk, h.1 k hk⟩⟩
  rw [hst]
  cases Lx.goodB (bs c.name) <;> cases hasR r c.teacher 2 <;> cases risB c.studs <;> simp [Bool.and_comm]
theorem cs_right {r : Rol} (hs : Rising r.names) : (List.range r.cs.length).all (rcB r.ms r.cs) = (risB r.classes && !((List.range r.cs.length).any fun i => !okC r (r.cs.getD i nilC))) := by
  rw [Bool.eq_iff_iff, Bool.and_eq_true, all_iff, none_iff, risB_iff]
  have hl : r.classes.length = r.cs.length := by simp [Rol.classes]
  have hst := step_iff (fun k => (r.cs.getD k nilC).name) r.cs.length
  simp only [classes_getD, hl, ← hst, rc_is hs, Bool.and_eq_true]
  exact ⟨fun h => ⟨fun k hk => (h k hk).2, fun k hk => (h k hk).1⟩, fun h k hk => ⟨h.2 k hk, h.1 k hk⟩⟩
/-- What the document calls right, the program calls right. -/
theorem right_is (r : Rol) : rightB r = okR r := by
  unfold rightB okR
  show _ = (risB r.names && !((List.range r.ms.length).any fun i => !okM (r.ms.getD i nilM)) && risB r.classes && !((List.range r.cs.length).any fun i => !okC r (r.cs.getD i nilC)))
  rw [ms_right]
  cases hr : risB r.names with
  | false => rfl
  | true => rw [cs_right (risB_ris.1 hr), Bool.and_assoc, Bool.and_assoc, Bool.and_assoc]
end Go.Proofs.Ytnmhgjoofgmcgaa.Rl
