/-
  Layer 5 in plain words: where a parse comes to is within the tokens.
-/
import Derived.Test.YtakihbjfkpebcaaSxTotal
namespace Go.Proofs.Ytakihbjfkpebcaa.Sx
open Lx (Tk)
variable {α β : Type}

/-- The tokens end with the end: what isn't the end has one behind it. -/
def Ended (ts : List Tk) : Prop := ∀ i, (tkAt ts i).kind ≠ 4 → i + 1 < ts.length
def Inb (ts : List Tk) (x : Option (Res α)) : Prop := ∀ v j, x = some (.ok v j) → j < ts.length
theorem bind_some {x : Option (Res α)} {f : α → Nat → Option (Res β)} {R : Res β} (h : (x.bind fun r => r.bind f) = some R) :
    (∃ l c e, x = some (.no l c e) ∧ R = .no l c e) ∨ (∃ v j, x = some (.ok v j) ∧ f v j = some R) := by
  cases x with
  | none => cases h
  | some r =>
    cases r with
    | no l c e =>
      have h' : some (Res.no (α := β) l c e) = some R := h
      injection h' with h'
      exact .inl ⟨l, c, e, rfl, h'.symm⟩
    | ok v j => exact .inr ⟨v, j, rfl, h⟩
theorem res_some {x : Res α} {f : α → Nat → Option (Res β)} {R : Res β} (h : x.bind f = some R) :
    (∃ l c e, x = .no l c e ∧ R = .no l c e) ∨ (∃ v j, x = .ok v j ∧ f v j = some R) := by
  cases x with
  | no l c e =>
    have h' : some (Res.no (α := β) l c e) = some R := h
    injection h' with h'
    exact .inl ⟨l, c, e, rfl, h'.symm⟩
  | ok v j => exact .inr ⟨v, j, rfl, h⟩
theorem inb_bind {ts : List Tk} {x : Option (Res α)} {f : α → Nat → Option (Res β)} (hx : Inb ts x) (hf : ∀ v j, j < ts.length → Inb ts (f v j)) : Inb ts (x.bind fun r => r.bind f) := by
  intro v j h
  rcases bind_some h with ⟨l, c, e, _, h2⟩ | ⟨v2, j2, h1, h2⟩
  · cases h2
  · exact hf v2 j2 (hx v2 j2 h1) v j h2
theorem inb_res {ts : List Tk} {x : Res α} {f : α → Nat → Option (Res β)} (hx : ∀ v j, x = .ok v j → j < ts.length) (hf : ∀ v j, x = .ok v j → j < ts.length → Inb ts (f v j)) : Inb ts (x.bind f) := by
  intro v j h
  rcases res_some h with ⟨l, c, e, _, h2⟩ | ⟨v2, j2, h1, h2⟩
  · cases h2
  · exact hf v2 j2 h1 (hx v2 j2 h1) v j h2
theorem inb_ok {ts : List Tk} {v : α} {j : Nat} (h : j < ts.length) : Inb ts (some (Res.ok v j)) := by
  intro v' j' e
  injection e with e
  injection e with _ e
  omega
theorem inb_bad {ts : List Tk} (i code : Nat) : Inb ts (some (Res.bad (α := α) ts i code)) := by
  intro v j e
  injection e with e
  unfold Res.bad at e
  cases e
theorem sg_kind {ts : List Tk} {i : Nat} {c : UInt8} (h : isSg ts i c = true) : (tkAt ts i).kind ≠ 4 := by
  unfold isSg at h
  simp only [Bool.and_eq_true, decide_eq_true_eq] at h
  rw [h.1]; decide
theorem clos_kind {ts : List Tk} {i : Nat} {c : UInt8} (h : clos ts i = some c) : (tkAt ts i).kind ≠ 4 := by
  unfold clos at h
  split at h
  · rename_i h1; exact sg_kind h1
  · split at h
    · rename_i h1; exact sg_kind h1
    · split at h
      · rename_i h1; exact sg_kind h1
      · cases h
theorem tak_inb {ts : List Tk} (hE : Ended ts) {i : Nat} (hk : (tkAt ts i).kind ≠ 4) : ∀ v j, tak ts i = .ok v j → j < ts.length := fun v j h => by
  rw [tak_at h]; exact hE i hk
theorem need_inb {ts : List Tk} (hE : Ended ts) {i : Nat} {c : UInt8} : ∀ v j, need ts i c = .ok v j → j < ts.length := fun v j h => by
  unfold need at h
  split at h
  · rename_i h1; exact tak_inb hE (sg_kind h1) v j h
  · unfold Res.bad at h; cases h

theorem inb_all (ts : List Tk) (hE : Ended ts) : ∀ f : Nat,
    (∀ d i, i < ts.length → Inb ts (pAlt ts f d i)) ∧ (∀ d i acc, i < ts.length → Inb ts (pMore ts f d i acc)) ∧ (∀ d i, i < ts.length → Inb ts (pRow ts f d i)) ∧
    (∀ d i acc, i < ts.length → Inb ts (pItems ts f d i acc)) ∧ (∀ d i, i < ts.length → Inb ts (pItem ts f d i)) ∧ (∀ d i, i < ts.length → Inb ts (pAtom ts f d i))
  | 0 => ⟨(fun d i _ v j h => by rw [pAlt] at h; cases h), (fun d i acc _ v j h => by rw [pMore] at h; cases h), (fun d i _ v j h => by rw [pRow] at h; cases h), (fun d i acc _ v j h => by rw [pItems] at h; cases h), (fun d i _ v j h => by rw [pItem] at h; cases h), (fun d i _ v j h => by rw [pAtom] at h; cases h)⟩
  | f + 1 => by
    obtain ⟨ih1, ih2, ih3, ih4, ih5, ih6⟩ := inb_all ts hE f
    refine ⟨fun d i hi => ?_, fun d i acc hi => ?_, fun d i hi => ?_, fun d i acc hi => ?_, fun d i hi => ?_, fun d i hi => ?_⟩
    · rw [pAlt]; exact inb_bind (ih3 d i hi) fun t j hj => ih2 d j _ hj
    · rw [pMore]
      split
      · rename_i h; exact inb_res (tak_inb hE (sg_kind h)) fun u j _ hj => inb_bind (ih3 d j hj) fun t k hk => ih2 d k _ hk
      · exact inb_ok hi
    · rw [pRow]; exact ih4 d i [] hi
    · rw [pItems]
      split
      · exact inb_bind (ih5 d i hi) fun t j hj => ih4 d j _ hj
      · exact inb_ok hi
    · rw [pItem]
      refine inb_bind (ih6 d i hi) fun t j hj => ?_
      split
      · rename_i h; exact inb_res (tak_inb hE (sg_kind h)) fun u k _ hk => inb_ok hk
      · split
        · rename_i h; exact inb_res (tak_inb hE (sg_kind h)) fun u k _ hk => inb_ok hk
        · split
          · rename_i h; exact inb_res (tak_inb hE (sg_kind h)) fun u k _ hk => inb_ok hk
          · exact inb_ok hj
    · rw [pAtom]
      split
      · rename_i h; exact inb_res (tak_inb hE (by rw [h]; decide)) fun u k _ hk => inb_ok hk
      · split
        · rename_i h; exact inb_res (tak_inb hE (by rw [h]; decide)) fun u k _ hk => inb_ok hk
        · split
          · intro v j h; cases h
          · rename_i c hc
            split
            · exact inb_bad _ _
            · exact inb_res (tak_inb hE (clos_kind hc)) fun u j _ hj => inb_bind (ih1 (d + 1) j hj) fun t k hk => inb_res (need_inb hE) fun u2 o _ ho => inb_ok ho

/-- Where a parse comes to is k tokens on. -/
def Adv (x : Option (Res α)) (i k : Nat) : Prop := ∀ v j, x = some (.ok v j) → i + k ≤ j
theorem adv_bind {x : Option (Res α)} {i k k2 : Nat} {f : α → Nat → Option (Res β)} (hx : Adv x i k) (hf : ∀ v j, i + k ≤ j → Adv (f v j) i k2) : Adv (x.bind fun r => r.bind f) i k2 := by
  intro v j h
  rcases bind_some h with ⟨l, c, e, _, h2⟩ | ⟨v2, j2, h1, h2⟩
  · cases h2
  · exact hf v2 j2 (hx v2 j2 h1) v j h2
theorem adv_res {x : Res α} {i k2 : Nat} {f : α → Nat → Option (Res β)} (hf : ∀ v j, x = .ok v j → Adv (f v j) i k2) : Adv (x.bind f) i k2 := by
  intro v j h
  rcases res_some h with ⟨l, c, e, _, h2⟩ | ⟨v2, j2, h1, h2⟩
  · cases h2
  · exact hf v2 j2 h1 v j h2
theorem adv_ok {v : α} {i j k : Nat} (h : i + k ≤ j) : Adv (some (Res.ok v j)) i k := by
  intro v' j' e
  injection e with e
  injection e with _ e
  omega
theorem adv_bad (ts : List Tk) (i i' k code : Nat) : Adv (some (Res.bad (α := α) ts i' code)) i k := by
  intro v j e
  injection e with e
  unfold Res.bad at e
  cases e
theorem Adv.mono {x : Option (Res α)} {i k i' k' : Nat} (h : Adv x i k) (h2 : i' + k' ≤ i + k) : Adv x i' k' := fun v j e => by have := h v j e; omega

theorem adv_all (ts : List Tk) : ∀ f : Nat,
    (∀ d i, Adv (pAlt ts f d i) i 0) ∧ (∀ d i acc, Adv (pMore ts f d i acc) i 0) ∧ (∀ d i, Adv (pRow ts f d i) i 0) ∧
    (∀ d i acc, Adv (pItems ts f d i acc) i 0) ∧ (∀ d i, Adv (pItem ts f d i) i 1) ∧ (∀ d i, Adv (pAtom ts f d i) i 1)
  | 0 => ⟨(fun d i v j h => by rw [pAlt] at h; cases h), (fun d i acc v j h => by rw [pMore] at h; cases h), (fun d i v j h => by rw [pRow] at h; cases h), (fun d i acc v j h => by rw [pItems] at h; cases h), (fun d i v j h => by rw [pItem] at h; cases h), (fun d i v j h => by rw [pAtom] at h; cases h)⟩
  | f + 1 => by
    obtain ⟨ih1, ih2, ih3, ih4, ih5, ih6⟩ := adv_all ts f
    refine ⟨fun d i => ?_, fun d i acc => ?_, fun d i => ?_, fun d i acc => ?_, fun d i => ?_, fun d i => ?_⟩
    · rw [pAlt]; exact adv_bind (ih3 d i) fun t j hj => (ih2 d j _).mono (by omega)
    · rw [pMore]
      split
      · refine adv_res fun u j hj => ?_
        have := tak_at hj
        exact adv_bind ((ih3 d j).mono (i' := i) (k' := 1) (by omega)) fun t k hk => (ih2 d k _).mono (by omega)
      · exact adv_ok (by omega)
    · rw [pRow]; exact ih4 d i []
    · rw [pItems]
      split
      · exact adv_bind (ih5 d i) fun t j hj => (ih4 d j _).mono (by omega)
      · exact adv_ok (by omega)
    · rw [pItem]
      refine adv_bind (ih6 d i) fun t j hj => ?_
      have go : ∀ (t : Tree) (k : Nat), Adv ((tak ts j).bind fun _ k => some (.ok t k)) i 1 := fun t _ => adv_res fun u k hk => by
        have := tak_at hk
        exact adv_ok (by omega)
      split
      · exact go _ 0
      · split
        · exact go _ 0
        · split
          · exact go _ 0
          · exact adv_ok (by omega)
    · rw [pAtom]
      split
      · exact adv_res fun u k hk => by have := tak_at hk; exact adv_ok (by omega)
      · split
        · exact adv_res fun u k hk => by have := tak_at hk; exact adv_ok (by omega)
        · split
          · intro v j h; cases h
          · rename_i c hc
            split
            · exact adv_bad _ _ _ _ _
            · refine adv_res fun u j hj => ?_
              have h1 := tak_at hj
              exact adv_bind ((ih1 (d + 1) j).mono (i' := i) (k' := 1) (by omega)) fun t k hk => adv_res fun u2 o ho => by
                have := need_at ho
                exact adv_ok (by omega)

end Go.Proofs.Ytakihbjfkpebcaa.Sx
