/-
  A region that draws within a round of a range over a function: it may be walked as everywhere, if none of its operations calls or defers.
-/
import Derived.OrdersIn
import Derived.OrdersHeld
import Derived.Deep.RegionHeld3
namespace Go.Proofs.Ytjlppffkacimoaa.Tame

/-- It ends in a value or in nothing. -/
def Mild (m : Sem Next) : Prop := ∀ (P : Program) (w : World) (x : Next) (w' : World), m.run P w = .ok x w' → (∃ v, x = .value v) ∨ x = .skip
theorem Mild.value (v : Value) : Mild (pure (.value v)) := fun P w x w' h => by
  simp only [Sem.run_pure] at h
  injection h with h _
  exact .inl ⟨v, h.symm⟩
theorem Mild.skip : Mild (pure .skip) := fun P w x w' h => by
  simp only [Sem.run_pure] at h
  injection h with h _
  exact .inr h.symm
theorem Mild.bind {α : Type} {s : Sem α} {f : α → Sem Next} (h : ∀ y, Mild (f y)) : Mild (s >>= f) := fun P w x w' e => by
  rw [Sem.run_bind] at e
  cases hs : s.run P w with
  | ok y w1 => rw [hs] at e; exact h y P w1 x w' e
  | halt y w1 => rw [hs] at e; cases e
theorem Mild.halt (h : Halt) : Mild (.halt h) := fun P w x w' e => by simp [Sem.run] at e
theorem Mild.panics : Mild (runtimePanic .nilDeref) := by
  unfold runtimePanic
  exact Mild.bind fun p => Mild.halt _
theorem Mild.pure_bind {α : Type} {y : α} {f : α → Sem Next} (h : Mild (f y)) : Mild ((pure y : Sem α) >>= f) := fun P w x w' e => by
  rw [Sem.run_bind, Sem.run_pure] at e
  exact h P w x w' e
/-- The operations that serve here. -/
def mildOp : Op → Bool
  | .move _ | .assign _ | .load .. | .store .. | .fieldAddr .. | .buildSlice .. | .indexAddr .. | .binOp .. | .slice .. | .nilCheck _ => true
  | .call c => match c.callee with | .builtin .append | .builtin .len => true | _ => false
  | _ => false
theorem mild_exec {o : Oper} (h : mildOp o.op = true) (ρ : Operand → Value) : Mild (execOp ρ o) ∧ ∀ c, o.op ≠ .defer c := by
  unfold execOp
  cases ho : o.op <;> rw [ho] at h <;> simp only [mildOp, Bool.false_eq_true] at h <;> refine ⟨?_, fun c hc => by cases hc⟩
  case move => exact Mild.value _
  case assign => exact Mild.value _
  case load => exact Mild.bind fun y => Mild.value _
  case store => exact Mild.bind fun y => Mild.skip
  case fieldAddr => exact Mild.bind fun y => Mild.value _
  case buildSlice => exact Mild.bind fun y => Mild.value _
  case indexAddr => exact Mild.bind fun y => Mild.value _
  case binOp => exact Mild.bind fun y => Mild.value _
  case slice => exact Mild.bind fun y => Mild.value _
  case nilCheck x =>
    dsimp only
    split
    · exact Mild.panics
    · exact Mild.panics
    · exact Mild.panics
    · split
      · exact Mild.panics
      · refine Mild.bind fun y => Mild.bind fun z => ?_
        split
        · exact Mild.bind fun y => Mild.value _
        · exact Mild.value _
      · exact Mild.value _
    · exact Mild.value _
  case call c =>
    dsimp only
    cases hc : c.callee with
    | builtin b =>
      rw [hc] at h
      unfold resolve
      rw [hc]
      cases b <;> simp only [Bool.false_eq_true] at h
      · exact Mild.pure_bind (Mild.bind fun y => Mild.value _)
      · exact Mild.pure_bind (Mild.bind fun y => Mild.value _)
    | invoke r n => rw [hc] at h; cases h
    | value f => rw [hc] at h; cases h

section
variable {F : Fence} {n : Nat} {P : Program} {ops : Array Oper} {Q : Exit → Act → World → Prop} {md : Region.Mode}

/-- Within any fence that lets all functions be: as everywhere. -/
theorem wpIn_of_wp {o : Oper} (hF : ∀ f, F.fn f) (ht : mildOp o.op = true) {a : Act} {w : World} {K : Act → World → Prop} (h : o.wp P a w K Q) : o.wpIn F n P a w K Q := by
  obtain ⟨hm, hd⟩ := mild_exec ht a.eval
  unfold Oper.wp at h
  unfold Oper.wpIn
  refine ⟨fun f _ => hF f, ?_⟩
  rw [Oper.semAt_eq F.round a.eval o hd]
  cases hr : (execOp a.eval o).run P w with
  | ok x w' =>
    rw [hr] at h
    rcases hm P w x w' hr with ⟨v, rfl⟩ | rfl
    · exact h
    · exact h
  | halt x w' =>
    rw [hr] at h
    cases x <;> first | exact h | exact (h : False).elim
theorem mono_post {o : Oper} (hF : ∀ f, F.fn f) (ht : mildOp o.op = true) {a : Act} {w : World} {K : Act → World → Prop} (h : o.wpIn F n P a w K (NoPanic Q)) : o.wpIn F n P a w K Q := by
  obtain ⟨hm, hd⟩ := mild_exec ht a.eval
  unfold Oper.wpIn at h ⊢
  obtain ⟨_, h⟩ := h
  refine ⟨fun f _ => hF f, ?_⟩
  rw [Oper.semAt_eq F.round a.eval o hd] at h ⊢
  cases hr : (execOp a.eval o).run P w with
  | ok x w' =>
    rw [hr] at h
    rcases hm P w x w' hr with ⟨v, rfl⟩ | rfl
    · exact h
    · exact h
  | halt x w' =>
    rw [hr] at h
    cases x <;> exact (h : False).elim
theorem wpAnyIn_of_any (hF : ∀ f, F.fn f) (ht : ∀ (i : Nat) (o : Oper), ops[i]? = some o → mildOp o.op = true) : ∀ (fuel : Nat) (listed : Array Bool) (a : Act) (w : World),
    wpAny P md ops (NoPanic Q) fuel listed a w → (∀ a w, ¬ Q .outgrown a w) → wpAnyIn F n P md ops Q fuel listed a w
  | 0, _, _, _, h, _ => h
  | fuel + 1, listed, a, w, h, hq => by
    refine ⟨h.1, fun i hi => ?_⟩
    have h2 := h.2 i hi
    unfold wpOp at h2
    unfold wpOpIn
    cases ho : ops[i]? with
    | none =>
      rw [ho] at h2
      exact wpAnyIn_of_any hF ht fuel _ a w h2 hq
    | some o =>
      rw [ho] at h2
      dsimp only at h2 ⊢
      split
      · rename_i hw
        rw [if_pos hw] at h2
        rcases h2 with h2 | ⟨_, a2, w2, h2⟩
        · have h3 : o.wpIn F n P a w (wpAny P md ops (NoPanic Q) fuel (listed.setIfInBounds i true)) (NoPanic Q) := wpIn_of_wp hF (ht i o ho) h2
          have h4 := Oper.wpIn_mono (fun a' w' h' => wpAnyIn_of_any hF ht fuel _ a' w' h' hq) h3
          exact mono_post hF (ht i o ho) h4
        · exact (hq a2 w2 h2).elim
      · rename_i hw
        rw [if_neg hw] at h2
        exact ⟨fun f _ => hF f, wpAnyIn_of_any hF ht fuel _ _ w h2 hq⟩
/-- A region that draws, walked under S as everywhere. -/
theorem region_in (hF : ∀ f, F.fn f) (hall : ops.all (fun o => mildOp o.op) = true) (hq : ∀ a w, ¬ Q .outgrown a w) {id : Nat} {a : Act} {w : World} (hm : P.follows .mixedOrders = true) (S : World → Prop) (hS : S w.drew)
    (h : S w.drew → wpAnyH P .any ops (NoPanic Q) S ops.size (Array.replicate ops.size false) a w.drew) : (Code.region id ops true).wpIn F n P Q a w :=
  wpIn_region_any hm (wpAnyIn_of_any hF (fun i o ho => by
    have := Array.all_eq_true.1 hall i (Array.getElem?_eq_some_iff.1 ho).1
    rwa [(Array.getElem?_eq_some_iff.1 ho).2] at this) _ _ _ _ (wpAny_of_held _ _ _ _ (h hS)) hq)
end
end Go.Proofs.Ytjlppffkacimoaa.Tame
