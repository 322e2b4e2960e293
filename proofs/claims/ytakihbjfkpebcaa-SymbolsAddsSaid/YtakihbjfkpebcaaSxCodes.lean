/-
  A fault has a code; the codes of a parse.
-/
import Derived.Test.YtakihbjfkpebcaaSxRun
namespace Go.Proofs.Ytakihbjfkpebcaa.Sx
open Lx (Tk)
set_option maxRecDepth 100000
variable {α β : Type}

/-- What is wrong is told by a code. -/
def Cod (x : Option (Res α)) : Prop := ∀ l c e, x = some (.no l c e) → e ≠ 0
theorem cod_bind {x : Option (Res α)} {f : α → Nat → Option (Res β)} (hx : Cod x) (hf : ∀ v j, Cod (f v j)) : Cod (x.bind fun r => r.bind f) := by
  intro l c e h
  rcases bind_some h with ⟨l2, c2, e2, h1, h2⟩ | ⟨v, j, _, h2⟩
  · injection h2 with _ _ h2
    rw [h2]; exact hx _ _ _ h1
  · exact hf v j l c e h2
theorem cod_res {x : Res α} {f : α → Nat → Option (Res β)} (hx : Cod (some x)) (hf : ∀ v j, Cod (f v j)) : Cod (x.bind f) := by
  intro l c e h
  rcases res_some h with ⟨l2, c2, e2, h1, h2⟩ | ⟨v, j, _, h2⟩
  · injection h2 with _ _ h2
    rw [h2]; exact hx _ _ _ (by rw [h1])
  · exact hf v j l c e h2
theorem cod_ok {v : α} {j : Nat} : Cod (some (Res.ok v j)) := fun l c e h => by injection h with h; cases h
theorem cod_bad {ts : List Tk} {i k : Nat} (hk : k ≠ 0) : Cod (some (Res.bad (α := α) ts i k)) := fun l c e h => by
  injection h with h
  unfold Res.bad at h
  injection h with _ _ h
  rw [← h]; exact hk
theorem cod_tak (ts : List Tk) (i : Nat) : Cod (some (tak ts i)) := by
  unfold tak
  split
  · exact cod_bad (by decide)
  · exact cod_ok
theorem cod_need (ts : List Tk) (i : Nat) (c : UInt8) : Cod (some (need ts i c)) := by
  unfold need
  split
  · exact cod_tak ts i
  · exact cod_bad (by decide)
theorem cod_nam (ts : List Tk) (i : Nat) : Cod (some (nam ts i)) := by
  unfold nam
  split
  · have := cod_tak ts i
    cases h : tak ts i with
    | no l c e =>
      rw [h] at this
      intro l' c' e' h'
      injection h' with h'
      injection h' with _ _ h'
      rw [← h']; exact this _ _ _ rfl
    | ok u j => exact cod_ok
  · exact cod_bad (by decide)
theorem cod_all (ts : List Tk) : ∀ f : Nat,
    (∀ d i, Cod (pAlt ts f d i)) ∧ (∀ d i acc, Cod (pMore ts f d i acc)) ∧ (∀ d i, Cod (pRow ts f d i)) ∧ (∀ d i acc, Cod (pItems ts f d i acc)) ∧ (∀ d i, Cod (pItem ts f d i)) ∧ (∀ d i, Cod (pAtom ts f d i))
  | 0 => ⟨(fun d i l c e h => by rw [pAlt] at h; cases h), (fun d i acc l c e h => by rw [pMore] at h; cases h), (fun d i l c e h => by rw [pRow] at h; cases h), (fun d i acc l c e h => by rw [pItems] at h; cases h), (fun d i l c e h => by rw [pItem] at h; cases h), (fun d i l c e h => by rw [pAtom] at h; cases h)⟩
  | f + 1 => by
    obtain ⟨ih1, ih2, ih3, ih4, ih5, ih6⟩ := cod_all ts f
    refine ⟨fun d i => ?_, fun d i acc => ?_, fun d i => ?_, fun d i acc => ?_, fun d i => ?_, fun d i => ?_⟩
    · rw [pAlt]; exact cod_bind (ih3 d i) fun t j => ih2 d j _
    · rw [pMore]
      split
      · exact cod_res (cod_tak ts i) fun u j => cod_bind (ih3 d j) fun t k => ih2 d k _
      · exact cod_ok
    · rw [pRow]; exact ih4 d i []
    · rw [pItems]
      split
      · exact cod_bind (ih5 d i) fun t j => ih4 d j _
      · exact cod_ok
    · rw [pItem]
      refine cod_bind (ih6 d i) fun t j => ?_
      split
      · exact cod_res (cod_tak ts j) fun u k => cod_ok
      · split
        · exact cod_res (cod_tak ts j) fun u k => cod_ok
        · split
          · exact cod_res (cod_tak ts j) fun u k => cod_ok
          · exact cod_ok
    · rw [pAtom]
      split
      · exact cod_res (cod_tak ts i) fun u k => cod_ok
      · split
        · exact cod_res (cod_tak ts i) fun u k => cod_ok
        · split
          · intro l c e h; cases h
          · split
            · exact cod_bad (by decide)
            · exact cod_res (cod_tak ts i) fun u j => cod_bind (ih1 (d + 1) j) fun t k => cod_res (cod_need ts k _) fun u2 m => cod_ok
theorem cod_rule (ts : List Tk) (f i : Nat) : Cod (pRule ts f i) := by
  unfold pRule
  exact cod_res (cod_nam ts i) fun n j => cod_res (cod_need ts j _) fun u k => cod_bind ((cod_all ts f).1 0 k) fun t m => cod_res (cod_need ts m _) fun u2 o => cod_ok
theorem cod_rules (ts : List Tk) : ∀ (f i : Nat) (acc : List (List UInt8 × Tree)), Cod (pRules ts f i acc)
  | 0, _, _ => fun l c e h => by rw [pRules] at h; cases h
  | f + 1, i, acc => by
    rw [pRules]
    split
    · split
      · exact cod_bad (by decide)
      · exact cod_bind (cod_rule ts f i) fun v j => cod_rules ts f j _
    · exact cod_ok
theorem cod_gram (ts : List Tk) (f : Nat) : Cod (pGram ts f) := by
  unfold pGram
  split
  · exact cod_res (cod_tak ts 0) fun u i => cod_res (cod_nam ts i) fun n j => cod_res (cod_need ts j _) fun u2 k => cod_bind (cod_rules ts f k []) fun rs m => cod_ok
  · exact cod_bind (cod_rules ts f 0 []) fun rs m => cod_ok
theorem parseT_code {ts : List Tk} {l c e : Nat} (h : parseT ts = .no l c e) : e ≠ 0 := cod_gram ts _ l c e (by rw [parseT_is, h])
end Go.Proofs.Ytakihbjfkpebcaa.Sx
