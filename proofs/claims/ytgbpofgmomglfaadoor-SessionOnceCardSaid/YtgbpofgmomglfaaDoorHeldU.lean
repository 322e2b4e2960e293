/-
  A region that draws its order, walked under a condition on the world of which one part need hold only until one operation of the region (a store) has come up: so loads of what that store writes may be taken first too.
-/
import Derived.Deep.RegionHeld3
namespace Go.Proofs.YtgbpofgmomglfaaDoor.HeldU
open Go

section
variable {P : Program} {ops : Array Oper} {Q : Exit → Act → World → Prop} {md : Region.Mode} {F G : World → Prop} {k : Nat}

/-- Of what has come up, all that it waits for has come up. -/
def Closed (md : Region.Mode) (ops : Array Oper) (l : Array Bool) : Prop :=
  ∀ j oj, ops[j]? = some oj → l.getD j false = true → ∀ e ∈ oj.after, Region.binds md e = true → l.getD e.on false = true
/-- Number k waits for number i. -/
def waits (md : Region.Mode) (ops : Array Oper) (i : Nat) : Nat → Nat → Bool
  | 0, _ => false
  | f + 1, k => match ops[k]? with
    | none => false
    | some o => o.after.toList.any fun e => Region.binds md e && (decide (e.on = i) || waits md ops i f e.on)
theorem waits_spec {l : Array Bool} (hc : Closed md ops l) {i : Nat} (hi : l.getD i true = false) : ∀ (f k : Nat), waits md ops i f k = true → l.getD k false = false
  | 0, _, h => by cases h
  | f + 1, k, h => by
    unfold waits at h
    cases ho : ops[k]? with
    | none => simp [ho] at h
    | some o =>
      simp only [ho] at h
      rw [List.any_eq_true] at h
      obtain ⟨e, he, h⟩ := h
      rw [Bool.and_eq_true, Bool.or_eq_true, decide_eq_true_eq] at h
      obtain ⟨hb, h⟩ := h
      cases hk : l.getD k false with
      | false => rfl
      | true =>
        have h2 := hc k o ho hk e (Array.mem_toList_iff.1 he) hb
        rcases h with rfl | h
        · exfalso
          rcases Nat.lt_or_ge e.on l.size with h' | h'
          · simp [h'] at hi h2; rw [hi] at h2; cases h2
          · simp [Array.getElem?_eq_none h'] at hi
        · rw [waits_spec hc hi f e.on h] at h2; cases h2
theorem closed_set {l : Array Bool} (hc : Closed md ops l) {i : Nat} (hi : i ∈ Region.ready md ops l) : Closed md ops (l.setIfInBounds i true) := by
  intro j oj hj hl e he hb
  refine getD_set_true ?_
  by_cases hji : j = i
  · subst hji
    obtain ⟨_, o, ho, hall⟩ := mem_ready.1 hi
    rw [hj] at ho
    injection ho with ho
    subst ho
    exact hall e he hb
  · rw [getD_set_ne false (Ne.symm hji)] at hl
    exact hc j oj hj hl e he hb
theorem closed_start : Closed md ops (Array.replicate ops.size false) := fun j oj _ h => by
  exfalso
  by_cases hj : j < ops.size <;> simp [hj] at h

/-- F always; G as long as number k has not come up. -/
def Until (F G : World → Prop) (k : Nat) (l : Array Bool) (w : World) : Prop := F w ∧ (l.getD k false = false → G w)
theorem until_set {i : Nat} (hik : i ≠ k) {l : Array Bool} {w : World} : Until F G k (l.setIfInBounds i true) w ↔ Until F G k l w := by
  unfold Until
  rw [getD_set_ne false hik]

/-- Whatever order is picked from here on, and the condition holds behind every operation that is carried out. -/
def wpAnyU (P : Program) (md : Region.Mode) (ops : Array Oper) (Q : Exit → Act → World → Prop) (F G : World → Prop) (k : Nat) : Nat → Array Bool → Act → World → Prop
  | 0, listed, a, w => Region.ready md ops listed = [] ∧ Q .normal a w
  | fuel + 1, listed, a, w =>
    (Region.ready md ops listed = [] → Q .normal a w) ∧
    ∀ i ∈ Region.ready md ops listed, wpOp P ops Q i (fun a' w' => Until F G k (listed.setIfInBounds i true) w' ∧ wpAnyU P md ops Q F G k fuel (listed.setIfInBounds i true) a' w') a w
theorem wpAny_of_until : ∀ (fuel : Nat) (listed : Array Bool) (a : Act) (w : World), wpAnyU P md ops Q F G k fuel listed a w → wpAny P md ops Q fuel listed a w
  | 0, _, _, _, h => h
  | fuel + 1, _, _, _, h => ⟨h.1, fun i hi => wpOp_mono (fun a' w' h' => wpAny_of_until fuel _ a' w' h'.2) (h.2 i hi)⟩

theorem wpAnyU_first {T : World → Prop} {i : Nat} {oi : Oper} {v : Value} (hi : ops[i]? = some oi) (hsel : ∀ (j : Nat) (o : Oper) cs b, ops[j]? = some o → o.op ≠ .select cs b)
    (hQ : ∀ c a w, Q (.panic c) (a.put oi.dst v) w → Q (.panic c) a w) (hik : i ≠ k) (hT : ∀ l w, Closed md ops l → l.getD i true = false → Until F G k l w → T w) :
    ∀ (fuel : Nat) (listed : Array Bool) (a : Act) (w : World), Closed md ops listed →
      (∀ j oj, ops[j]? = some oj → j ≠ i → listed.getD j true = false → (∀ e ∈ oj.after, Region.binds md e = true → e.on ≠ i) → oi.apart ops oj = true) →
      i ∈ Region.ready md ops listed → YieldsIf P ops T oi v a → Until F G k listed w →
      wpAnyU P md ops Q F G k fuel (listed.setIfInBounds i true) (a.put oi.dst v) w → wpAnyU P md ops Q F G k (fuel + 1) listed a w := by
  intro fuel
  induction fuel with
  | zero =>
    intro listed a w hcl _ hr hy hS H
    refine ⟨fun h => (by rw [h] at hr; cases hr), fun j hj => ?_⟩
    by_cases hji : j = i
    · subst hji; exact hy.wpOp hi (hT _ _ hcl (mem_ready.1 hr).1 hS) ⟨(until_set hik).2 hS, H⟩
    · have := ready_mono hj hji
      rw [H.1] at this
      cases this
  | succ fuel ih =>
    intro listed a w hcl hfree hr hy hS H
    refine ⟨fun h => (by rw [h] at hr; cases hr), fun j hj => ?_⟩
    by_cases hji : j = i
    · subst hji; exact hy.wpOp hi (hT _ _ hcl (mem_ready.1 hr).1 hS) ⟨(until_set hik).2 hS, H⟩
    · have h1 := H.2 j (ready_mono hj hji)
      obtain ⟨hjun, oj, hoj, hall⟩ := mem_ready.1 hj
      have hnot : ∀ e ∈ oj.after, Region.binds md e = true → e.on ≠ i := fun e he hb heq => by
        have h1 := hall e he hb
        have h0 := (mem_ready.1 hr).1
        rw [heq] at h1
        rcases Nat.lt_or_ge i listed.size with h' | h'
        · simp [h'] at h0 h1; rw [h0] at h1; cases h1
        · simp [Array.getElem?_eq_none h'] at h1
      have h2 := wpOp_putIf hoj (hfree j oj hoj hji hjun hnot) (fun cs b => hsel i oi cs b hi) (fun cs b => hsel j oj cs b hoj) hQ hy h1
      have hfree' : ∀ k ok, ops[k]? = some ok → k ≠ i → (listed.setIfInBounds j true).getD k true = false →
          (∀ e ∈ ok.after, Region.binds md e = true → e.on ≠ i) → oi.apart ops ok = true := fun k ok hk hki hun hno => by
        refine hfree k ok hk hki ?_ hno
        by_cases hjk : j = k
        · subst hjk; exact hjun
        · rw [getD_set_ne true hjk] at hun; exact hun
      refine wpOp_mono (fun a' w' h3 => ?_) h2
      obtain ⟨h3, h4, h5⟩ := h3
      rw [Array.setIfInBounds_comm _ _ (Ne.symm hji)] at h4 h5
      have h4 := (until_set hik).1 h4
      exact ⟨h4, ih (listed.setIfInBounds j true) a' w' (closed_set hcl hj) hfree' (ready_mono hr (Ne.symm hji)) h3 h4 h5⟩

/-- The check that what came up is closed. -/
def closedB (md : Region.Mode) (ops : Array Oper) (l : Array Bool) : Bool :=
  (List.range ops.size).all fun j => match ops[j]? with | none => true | some o => !l.getD j false || o.after.toList.all fun e => !Region.binds md e || l.getD e.on false
theorem closed_of {l : Array Bool} (h : closedB md ops l = true) : Closed md ops l := by
  intro j oj hj hl e he hb
  unfold closedB at h
  rw [List.all_eq_true] at h
  have hlt : j < ops.size := (Array.getElem?_eq_some_iff.1 hj).1
  have h1 := h j (List.mem_range.2 hlt)
  simp only [hj, hl, Bool.not_true, Bool.false_or, List.all_eq_true] at h1
  have h2 := h1 e (Array.mem_toList_iff.2 he)
  simpa [hb] using h2

/-- Take number i first: what it reads holds always. -/
theorem wpAnyU_take {i : Nat} {oi : Oper} {v : Value} {fuel : Nat} {listed : Array Bool} {a : Act} {w : World} (hi : ops[i]? = some oi)
    (hs : Region.noSelect ops = true) (hf : Region.free md ops listed i = true) (hr : (Region.ready md ops listed).contains i = true) (hcl : closedB md ops listed = true) (hik : decide (i ≠ k) = true)
    (hQ : ∀ c a w, Q (.panic c) (a.put oi.dst v) w → Q (.panic c) a w) (hy : YieldsIf P ops F oi v a) (hS : Until F G k listed w)
    (h : wpAnyU P md ops Q F G k fuel (listed.setIfInBounds i true) (a.put oi.dst v) w) : wpAnyU P md ops Q F G k (fuel + 1) listed a w :=
  wpAnyU_first hi (Region.noSelect_spec hs) hQ (of_decide_eq_true hik) (fun _ _ _ _ h => h.1) fuel listed a w (closed_of hcl) (Region.free_spec hi hf) (by simpa using hr) hy hS h
/-- Take number i first: number k waits for it. -/
theorem wpAnyU_early {i : Nat} {oi : Oper} {v : Value} {fuel : Nat} {listed : Array Bool} {a : Act} {w : World} (hi : ops[i]? = some oi)
    (hs : Region.noSelect ops = true) (hf : Region.free md ops listed i = true) (hr : (Region.ready md ops listed).contains i = true) (hcl : closedB md ops listed = true) (hik : decide (i ≠ k) = true) (hw : waits md ops i ops.size k = true)
    (hQ : ∀ c a w, Q (.panic c) (a.put oi.dst v) w → Q (.panic c) a w) (hy : YieldsIf P ops (fun w => F w ∧ G w) oi v a) (hS : Until F G k listed w)
    (h : wpAnyU P md ops Q F G k fuel (listed.setIfInBounds i true) (a.put oi.dst v) w) : wpAnyU P md ops Q F G k (fuel + 1) listed a w :=
  wpAnyU_first hi (Region.noSelect_spec hs) hQ (of_decide_eq_true hik) (fun _ _ hc hn h => ⟨h.1, h.2 (waits_spec hc hn _ _ hw)⟩) fuel listed a w (closed_of hcl) (Region.free_spec hi hf) (by simpa using hr) hy hS h

def AllReadyU (P : Program) (md : Region.Mode) (ops : Array Oper) (Q : Exit → Act → World → Prop) (F G : World → Prop) (k fuel : Nat) (listed : Array Bool) (a : Act) (w : World) (rs : List Nat) : Prop :=
  ∀ i ∈ rs, wpOp P ops Q i (fun a' w' => Until F G k (listed.setIfInBounds i true) w' ∧ wpAnyU P md ops Q F G k fuel (listed.setIfInBounds i true) a' w') a w
theorem AllReadyU.nil {fuel : Nat} {listed : Array Bool} {a : Act} {w : World} : AllReadyU P md ops Q F G k fuel listed a w [] := fun _ h => by cases h
theorem AllReadyU.cons {fuel : Nat} {listed : Array Bool} {a : Act} {w : World} {i : Nat} {o : Oper} {rs : List Nat} (ho : ops[i]? = some o)
    (h : ∀ K' : Act → World → Prop, Shut (∀ a w, Until F G k (listed.setIfInBounds i true) w → (Until F G k (listed.setIfInBounds i true) w → wpAnyU P md ops Q F G k fuel (listed.setIfInBounds i true) a w) → K' a w) → if Region.wanted o (yielded ops a.tmps) = true then Oper.wp P o a w K' Q else K' (a.put o.dst undef) w)
    (hs : AllReadyU P md ops Q F G k fuel listed a w rs) : AllReadyU P md ops Q F G k fuel listed a w (i :: rs) := fun j hj => by
  rcases List.mem_cons.1 hj with rfl | hj
  · exact wpOp_step ho (fun K' hK => h K' (fun a w hS hW => hK a w ⟨hS, hW hS⟩))
  · exact hs j hj
theorem wpAnyU_ready {rs : List Nat} {fuel : Nat} {listed : Array Bool} {a : Act} {w : World} (hr : Region.ready md ops listed = rs) (hne : rs ≠ [])
    (h : AllReadyU P md ops Q F G k fuel listed a w rs) : wpAnyU P md ops Q F G k (fuel + 1) listed a w :=
  ⟨fun h0 => absurd (hr ▸ h0) hne, hr ▸ h⟩
theorem wpAnyU_done {listed : Array Bool} {a : Act} {w : World} (hr : Region.ready md ops listed = []) (h : Q .normal a w) :
    ∀ fuel, wpAnyU P md ops Q F G k fuel listed a w
  | 0 => ⟨hr, h⟩
  | _ + 1 => ⟨fun _ => h, by rw [hr]; simp⟩
/-- The beginning. -/
theorem wp_region_until {F G : World → Prop} {k : Nat} {id : Nat} {a : Act} {w : World} (hm : P.follows .mixedOrders = true) (hF : F w.drew) (hG : G w.drew)
    (h : Until F G k (Array.replicate ops.size false) w.drew → wpAnyU P .any ops Q F G k ops.size (Array.replicate ops.size false) a w.drew) : (Code.region id ops true).wp P Q a w :=
  wp_region_any hm (wpAny_of_until _ _ _ _ (h ⟨hF, fun _ => hG⟩))
end
end Go.Proofs.YtgbpofgmomglfaaDoor.HeldU
