/-
  A region that draws its order, whose own operations only read and whose calls may lay new blocks, and may be handed what other calls of the region have told: one walk in the order of the text serves every order.
  What a call tells must hold on however the world grows; a call may be shown by what those calls have told that its text waits for (D).
-/
import Derived.Still
import Derived.Below
import Derived.Tactics
import Derived.Tactics2
import Derived.KernelRfl
namespace Go.Proofs.YtgbpofgmomglfaaDoor.LooseD
open Go Go.RowKit

/-- What is said of a call: it tells this of its value; or its value is this one. -/
inductive Kind where
  | told (t : Value → World → Prop)
  | is (v : Value)
/-- What an operation may leave in its slot, and whether that is noted. -/
structure Tau where
  ok : Value → Prop
  note : Bool
abbrev Notes := Nat → Option Value
def Notes.set (V : Notes) (i : Nat) (b : Bool) (v : Value) : Notes := fun j => if j = i then (if b = true then some v else V j) else V j
/-- All that was told holds. -/
def Holds (T : Nat → Option Kind) (D : List Nat) (V : Notes) (w : World) : Prop := ∀ d ∈ D, ∀ v t, V d = some v → T d = some (.told t) → t v w
def HoldsAll (T : Nat → Option Kind) (V : Notes) (w : World) : Prop := ∀ d v t, V d = some v → T d = some (.told t) → t v w

section
variable {P : Program} {ops : Array Oper} {md : Region.Mode} {C : World → Prop} {T : Nat → Option Kind} {D : Nat → List Nat}

def Reads (P : Program) (o : Oper) (a : Act) (w : World) (v : Value) : Prop := (execOp a.eval o).run P w = .ok (.value v) w
def Tells (P : Program) (o : Oper) (a : Act) (t : Value → World → Prop) (w : World) : Prop :=
  ∃ f args, (execOp a.eval o).run P w = .ok (.enter f args) w ∧ Calls P f args w fun e w' => ∃ v, e = .returned v ∧ Below w.heap.size w w' ∧ t v w'

def Good (P : Program) (ops : Array Oper) (C : World → Prop) (T : Nat → Option Kind) (D : Nat → List Nat) (i : Nat) (o : Oper) (a : Act) (V : Notes) (x : Tau) : Prop :=
  (Region.wanted o (yielded ops a.tmps) = true ∧ T i = none ∧ ∃ v, (∀ w, C w → Reads P o a w v) ∧ x = ⟨(· = v), false⟩) ∨
  (Region.wanted o (yielded ops a.tmps) = true ∧ ∃ t, T i = some (.told t) ∧ (∀ w, C w → Holds T (D i) V w → Tells P o a t w) ∧ x = ⟨fun _ => True, true⟩) ∨
  (Region.wanted o (yielded ops a.tmps) = true ∧ ∃ u, T i = some (.is u) ∧ (∀ w, C w → Holds T (D i) V w → Tells P o a (fun v _ => v = u) w) ∧ x = ⟨(· = u), false⟩) ∨
  (Region.wanted o (yielded ops a.tmps) = false ∧ x = ⟨(· = undef), false⟩)

theorem Good.one {i : Nat} {o : Oper} {a : Act} {V V' : Notes} {x y : Tau} {w : World} (hw : C w) (h : Good P ops C T D i o a V x) (k : Good P ops C T D i o a V' y) : x = y := by
  rcases h with ⟨h1, h2, v, h3, h4⟩ | ⟨h1, t, h2, h3, h4⟩ | ⟨h1, t, h2, h3, h4⟩ | ⟨h1, h4⟩ <;> rcases k with ⟨k1, k2, u, k3, k4⟩ | ⟨k1, s, k2, k3, k4⟩ | ⟨k1, s, k2, k3, k4⟩ | ⟨k1, k4⟩ <;>
    first
    | (rw [h4, k4]; done)
    | (rw [h1] at k1; cases k1; done)
    | (rw [h2] at k2; cases k2; done)
    | (rw [h2] at k2; injection k2 with k2; injection k2 with k2; subst k2; rw [h4, k4]; done)
    | (have e1 := h3 w hw; have e2 := k3 w hw; unfold Reads at e1 e2; rw [e1] at e2; injection e2 with e2; injection e2 with e2; subst e2; rw [h4, k4]; done)

theorem Good.some_ok {i : Nat} {o : Oper} {a : Act} {V : Notes} {x : Tau} (h : Good P ops C T D i o a V x) : ∃ v, x.ok v := by
  rcases h with ⟨_, _, v, _, rfl⟩ | ⟨_, t, _, _, rfl⟩ | ⟨_, u, _, _, rfl⟩ | ⟨_, rfl⟩
  · exact ⟨v, rfl⟩
  · exact ⟨undef, trivial⟩
  · exact ⟨u, rfl⟩
  · exact ⟨undef, rfl⟩

theorem Good.same {i : Nat} {o : Oper} {a a' : Act} {V V' : Notes} {x : Tau} (he : execOp a'.eval o = execOp a.eval o) (hw : Region.wanted o (yielded ops a'.tmps) = Region.wanted o (yielded ops a.tmps)) (hV : ∀ d ∈ D i, V' d = V d) (h : Good P ops C T D i o a V x) : Good P ops C T D i o a' V' x := by
  have e : ∀ w, Holds T (D i) V' w → Holds T (D i) V w := fun w hh d hd v t hv => hh d hd v t (by rw [hV d hd]; exact hv)
  rcases h with ⟨h1, h2, v, h3, h4⟩ | ⟨h1, t, h2, h3, h4⟩ | ⟨h1, t, h2, h3, h4⟩ | ⟨h1, h4⟩
  · exact .inl ⟨hw.trans h1, h2, v, fun w hc => by unfold Reads; rw [he]; exact h3 w hc, h4⟩
  · exact .inr (.inl ⟨hw.trans h1, t, h2, fun w hc hh => by unfold Tells; rw [he]; exact h3 w hc (e w hh), h4⟩)
  · exact .inr (.inr (.inl ⟨hw.trans h1, t, h2, fun w hc hh => by unfold Tells; rw [he]; exact h3 w hc (e w hh), h4⟩))
  · exact .inr (.inr (.inr ⟨hw.trans h1, h4⟩))

/-- Operation number i comes up. -/
def step1 (P : Program) (ops : Array Oper) (C : World → Prop) (T : Nat → Option Kind) (D : Nat → List Nat) (i : Nat) (K : Act → Notes → Prop) (a : Act) (V : Notes) : Prop :=
  match ops[i]? with
  | none => K a V
  | some o => ∃ x, Good P ops C T D i o a V x ∧ ∀ v, x.ok v → K (a.put o.dst v) (V.set i x.note v)

theorem step1_mono {i : Nat} {a : Act} {V : Notes} {K K' : Act → Notes → Prop} (h : ∀ a V, K a V → K' a V) (hh : step1 P ops C T D i K a V) : step1 P ops C T D i K' a V := by
  unfold step1 at *
  split
  · rename_i ho; simp only [ho] at hh; exact h _ _ hh
  · rename_i o ho
    simp only [ho] at hh
    obtain ⟨x, h1, h2⟩ := hh
    exact ⟨x, h1, fun v hv => h _ _ (h2 v hv)⟩

/-- Whatever order is picked from here on. -/
def wpL (P : Program) (md : Region.Mode) (ops : Array Oper) (C : World → Prop) (T : Nat → Option Kind) (D : Nat → List Nat) (Q : Act → Notes → Prop) : Nat → Array Bool → Act → Notes → Prop
  | 0, listed, a, V => Region.ready md ops listed = [] ∧ Q a V
  | fuel + 1, listed, a, V =>
    (Region.ready md ops listed = [] → Q a V) ∧ ∀ i ∈ Region.ready md ops listed, step1 P ops C T D i (wpL P md ops C T D Q fuel (listed.setIfInBounds i true)) a V

/-- The class, and what is told, hold on. -/
structure Stays (C : World → Prop) (T : Nat → Option Kind) : Prop where
  grows : ∀ w w', C w → Below w.heap.size w w' → C w'
  told : ∀ i t, T i = some (.told t) → ∀ v w w', t v w → Below w.heap.size w w' → t v w'

theorem holds_set {V : Notes} {w w' : World} {i : Nat} {b : Bool} {v : Value} (hS : Stays C T) (h : HoldsAll T V w) (hb : Below w.heap.size w w') (hv : b = true → ∀ t, T i = some (.told t) → t v w') : HoldsAll T (V.set i b v) w' := by
  intro d u t hu ht
  unfold Notes.set at hu
  by_cases e : d = i
  · rw [if_pos e] at hu
    by_cases e2 : b = true
    · rw [if_pos e2] at hu
      injection hu with hu
      subst hu
      subst e
      exact hv e2 t ht
    · rw [if_neg e2] at hu
      exact hS.told d t ht u w w' (h d u t hu ht) hb
  · rw [if_neg e] at hu
    exact hS.told d t ht u w w' (h d u t hu ht) hb

theorem wpAny_of_wpL {Q : Act → Notes → Prop} {Q' : Exit → Act → World → Prop} (hS : Stays C T) (hQ : ∀ a V w, C w → HoldsAll T V w → Q a V → Q' .normal a w) : ∀ (fuel : Nat) (listed : Array Bool) (a : Act) (V : Notes) (w : World), C w → HoldsAll T V w → wpL P md ops C T D Q fuel listed a V → wpAny P md ops Q' fuel listed a w
  | 0, _, _, _, _, hw, hF, h => ⟨h.1, hQ _ _ _ hw hF h.2⟩
  | fuel + 1, listed, a, V, w, hw, hF, h => by
    refine ⟨fun h0 => hQ _ _ _ hw hF (h.1 h0), fun i hi => ?_⟩
    have h2 := h.2 i hi
    unfold step1 at h2
    unfold wpOp
    split
    · rename_i ho; simp only [ho] at h2; exact wpAny_of_wpL hS hQ fuel _ _ _ _ hw hF h2
    · rename_i o ho
      simp only [ho] at h2
      obtain ⟨x, h3, h4⟩ := h2
      rcases h3 with ⟨h1, _, v, h3, rfl⟩ | ⟨h1, t, ht, h3, rfl⟩ | ⟨h1, u, ht, h3, rfl⟩ | ⟨h1, rfl⟩
      · rw [if_pos h1]
        left
        have h5 := wpAny_of_wpL hS hQ fuel _ _ _ w hw (holds_set hS hF (Below.refl _ _) (fun e => by cases e)) (h4 v rfl)
        have h9 := h3 w hw
        unfold Reads at h9
        unfold Oper.wp
        rw [h9]; exact h5
      · rw [if_pos h1]
        left
        obtain ⟨f, args, h6, hc⟩ := h3 w hw (fun d _ v t => hF d v t)
        unfold Oper.wp
        rw [h6]
        refine hc.mono fun e w' ⟨v, he, hb, hv⟩ => ?_
        subst he
        exact wpAny_of_wpL hS hQ fuel _ _ _ w' (hS.grows w w' hw hb) (holds_set hS hF hb (fun _ t2 ht2 => by rw [ht] at ht2; injection ht2 with ht2; injection ht2 with ht2; subst ht2; exact hv)) (h4 v trivial)
      · rw [if_pos h1]
        left
        obtain ⟨f, args, h6, hc⟩ := h3 w hw (fun d _ v t => hF d v t)
        unfold Oper.wp
        rw [h6]
        refine hc.mono fun e w' ⟨v, he, hb, hv⟩ => ?_
        subst he
        exact wpAny_of_wpL hS hQ fuel _ _ _ w' (hS.grows w w' hw hb) (holds_set hS hF hb (fun e => by cases e)) (h4 v hv)
      · rw [if_neg (by rw [h1]; decide)]
        exact wpAny_of_wpL hS hQ fuel _ _ _ w hw (holds_set hS hF (Below.refl _ _) (fun e => by cases e)) (h4 _ rfl)

theorem Notes.set_comm (V : Notes) {i j : Nat} (hij : i ≠ j) (b c : Bool) (v u : Value) : (V.set i b v).set j c u = (V.set j c u).set i b v := by
  funext d
  unfold Notes.set
  by_cases e : d = i
  · have e2 : ¬ d = j := fun h => hij (e.symm.trans h)
    rw [if_neg e2, if_pos e, if_pos e, if_neg e2]
  · by_cases e2 : d = j
    · rw [if_pos e2, if_neg e, if_neg e, if_pos e2]
    · rw [if_neg e2, if_neg e, if_neg e, if_neg e2]
theorem Notes.set_far (V : Notes) {i d : Nat} (h : d ≠ i) (b : Bool) (v : Value) : V.set i b v d = V d := by unfold Notes.set; rw [if_neg h]

/-- Two operations apart may change their places. -/
theorem step1_swap {i j : Nat} {oi oj : Oper} (hi : ops[i]? = some oi) (hj : ops[j]? = some oj) (hij : i ≠ j) (hap : oi.apart ops oj = true) (hsi : ∀ cs b, oi.op ≠ .select cs b) (hsj : ∀ cs b, oj.op ≠ .select cs b) (hdi : j ∉ D i) (hdj : i ∉ D j) {w0 : World} (hw : C w0)
    {K : Act → Notes → Prop} {a : Act} {V : Notes} (h : step1 P ops C T D i (step1 P ops C T D j K) a V) : step1 P ops C T D j (step1 P ops C T D i K) a V := by
  obtain ⟨h1, h2, h3⟩ := Oper.apart_spec hap
  unfold step1 at *
  simp only [hi, hj] at *
  obtain ⟨x, hx, hn⟩ := h
  obtain ⟨v0, hv0⟩ := hx.some_ok
  obtain ⟨y, hy, _⟩ := hn v0 hv0
  have back : ∀ v, ∀ {z}, Good P ops C T D j oj (a.put oi.dst v) (V.set i x.note v) z → Good P ops C T D j oj a V z := fun v z hz => hz.same (execOp_put oj hsj a oi.dst v h1).symm (wanted_put oj a oi.dst v h1).symm (fun d hd => (V.set_far (fun (e : d = i) => hdj (by rw [← e]; exact hd)) _ _).symm)
  have hy' := back v0 hy
  refine ⟨y, hy', fun u hu => ⟨x, hx.same (execOp_put oi hsi a oj.dst u h3) (wanted_put oi a oj.dst u h3) (fun d hd => V.set_far (fun (e : d = j) => hdi (by rw [← e]; exact hd)) _ _), fun v hv => ?_⟩⟩
  obtain ⟨y2, hy2, hn2⟩ := hn v hv
  have e := (back v hy2).one hw hy'
  subst e
  have := hn2 u hu
  rw [Act.put_comm a v u h2, V.set_comm hij] at this
  exact this

/-- What a call is shown by, its text waits for. -/
def Waits (md : Region.Mode) (ops : Array Oper) (D : Nat → List Nat) : Prop := ∀ j oj, ops[j]? = some oj → ∀ d ∈ D j, ∃ e ∈ oj.after, Region.binds md e = true ∧ e.on = d
theorem Waits.far (hD : Waits md ops D) {listed : Array Bool} {i j : Nat} (hi : i ∈ Region.ready md ops listed) (hj : j ∈ Region.ready md ops listed) : i ∉ D j := by
  intro hd
  obtain ⟨_, oj, hoj, hall⟩ := mem_ready.1 hj
  obtain ⟨e, he, hb, hon⟩ := hD j oj hoj i hd
  have h1 := hall e he hb
  have h0 := (mem_ready.1 hi).1
  rw [hon] at h1
  rcases Nat.lt_or_ge i listed.size with h' | h'
  · simp [h'] at h0 h1; rw [h0] at h1; cases h1
  · simp [Array.getElem?_eq_none h'] at h1

theorem wpL_first {Q : Act → Notes → Prop} (hD : Waits md ops D) {w0 : World} (hw : C w0) {i : Nat} {oi : Oper} (hi : ops[i]? = some oi) (hsel : ∀ (j : Nat) (o : Oper) cs b, ops[j]? = some o → o.op ≠ .select cs b) :
    ∀ (fuel : Nat) (listed : Array Bool) (a : Act) (V : Notes),
      (∀ j oj, ops[j]? = some oj → j ≠ i → listed.getD j true = false → (∀ e ∈ oj.after, Region.binds md e = true → e.on ≠ i) → oi.apart ops oj = true) →
      i ∈ Region.ready md ops listed → step1 P ops C T D i (wpL P md ops C T D Q fuel (listed.setIfInBounds i true)) a V → wpL P md ops C T D Q (fuel + 1) listed a V := by
  intro fuel
  induction fuel with
  | zero =>
    intro listed a V _ hr H
    refine ⟨fun h => (by rw [h] at hr; cases hr), fun j hj => ?_⟩
    by_cases hji : j = i
    · subst hji; exact H
    · exfalso
      have h1 := ready_mono hj hji
      unfold step1 at H
      simp only [hi] at H
      obtain ⟨x, hx, hn⟩ := H
      obtain ⟨v0, hv0⟩ := hx.some_ok
      have h2 := (hn v0 hv0).1
      rw [h2] at h1
      cases h1
  | succ fuel ih =>
    intro listed a V hfree hr H
    refine ⟨fun h => (by rw [h] at hr; cases hr), fun j hj => ?_⟩
    by_cases hji : j = i
    · subst hji; exact H
    · obtain ⟨hjun, oj, hoj, hall⟩ := mem_ready.1 hj
      have hnot : ∀ e ∈ oj.after, Region.binds md e = true → e.on ≠ i := fun e he hb heq => by
        have h1 := hall e he hb
        have h0 := (mem_ready.1 hr).1
        rw [heq] at h1
        rcases Nat.lt_or_ge i listed.size with h' | h'
        · simp [h'] at h0 h1; rw [h0] at h1; cases h1
        · simp [Array.getElem?_eq_none h'] at h1
      have h1 := step1_mono (K' := step1 P ops C T D j (wpL P md ops C T D Q fuel ((listed.setIfInBounds i true).setIfInBounds j true))) (fun a' V' hx => hx.2 j (ready_mono hj hji)) H
      have h2 := step1_swap hi hoj (Ne.symm hji) (hfree j oj hoj hji hjun hnot) (fun cs b => hsel i oi cs b hi) (fun cs b => hsel j oj cs b hoj) (hD.far hj hr) (hD.far hr hj) hw h1
      refine step1_mono (fun a' V' h3 => ih (listed.setIfInBounds j true) a' V' (fun k ok hk hki hun hno => ?_) (ready_mono hr (Ne.symm hji)) (by rw [Array.setIfInBounds_comm _ _ hji]; exact h3)) h2
      refine hfree k ok hk hki ?_ hno
      by_cases hjk : j = k
      · subst hjk; exact hjun
      · rw [getD_set_ne true hjk] at hun; exact hun

/-- The walk in the order of the text. -/
def walkL (P : Program) (ops : Array Oper) (C : World → Prop) (T : Nat → Option Kind) (D : Nat → List Nat) (Q : Act → Notes → Prop) : Nat → List Oper → Act → Notes → Prop
  | _, [], a, V => Q a V
  | k, o :: rest, a, V => ∃ x, Good P ops C T D k o a V x ∧ ∀ v, x.ok v → walkL P ops C T D Q (k + 1) rest (a.put o.dst v) (V.set k x.note v)

theorem wpL_lex {Q : Act → Notes → Prop} (hD : Waits md ops D) {w0 : World} (hw : C w0) (hs : Region.noSelect ops = true) : ∀ (l : List Oper) (k : Nat) (listed : Array Bool) (a : Act) (V : Notes), (∀ j, l[j]? = ops[k + j]?) →
    Region.lexFrom md ops l.length k listed = true → walkL P ops C T D Q k l a V → wpL P md ops C T D Q l.length listed a V
  | [], _, _, _, _, _, hB, h => ⟨by simpa [Region.lexFrom] using hB, h⟩
  | o :: l, k, listed, a, V, hl, hB, h => by
    have h0 : ops[k]? = some o := by simpa using (hl 0).symm
    simp only [List.length_cons, Region.lexFrom, Bool.and_eq_true] at hB
    obtain ⟨⟨hr, hf⟩, hB'⟩ := hB
    refine wpL_first hD hw h0 (Region.noSelect_spec hs) l.length listed a V (Region.free_spec h0 hf) (by simpa using hr) ?_
    unfold step1
    simp only [h0]
    obtain ⟨x, hx, hn⟩ := h
    exact ⟨x, hx, fun v hv => wpL_lex hD hw hs l (k + 1) _ _ _ (fun j => by have := hl (j + 1); simpa [Nat.add_assoc, Nat.add_comm 1 j] using this) hB' (hn v hv)⟩

/-- What stands behind. -/
def QL (C : World → Prop) (T : Nat → Option Kind) (Q : Exit → Act → World → Prop) : Act → Notes → Prop := fun a' V => ∀ w', C w' → HoldsAll T V w' → Q .normal a' w'
def nothing : Notes := fun _ => none

/-- The rule. -/
theorem region_loose {id : Nat} {Q : Exit → Act → World → Prop} {a : Act} {w : World} {l : List Oper} (C : World → Prop) (T : Nat → Option Kind) (D : Nat → List Nat) (hm : P.follows .mixedOrders = true) (hB : Region.lexB .any l.toArray = true) (hD : Waits .any l.toArray D) (hS : Stays C T) (hC : C w.drew)
    (h : walkL P l.toArray C T D (QL C T Q) 0 l a nothing) : (Code.region id l.toArray true).wp P Q a w := by
  simp only [Region.lexB, Bool.and_eq_true] at hB
  refine wp_region_any hm (wpAny_of_wpL (Q := QL C T Q) (D := D) hS (fun _ _ w' hw' hF h => h w' hw' hF) _ _ _ nothing _ hC (fun d v t h => by cases h) ?_)
  have := wpL_lex (C := C) (T := T) (D := D) (md := .any) (Q := QL C T Q) hD hC hB.1 l 0 (Array.replicate l.toArray.size false) a nothing (by simp) (by simpa using hB.2) h
  simpa using this

variable {Q : Exit → Act → World → Prop} {k : Nat} {o : Oper} {rest : List Oper} {a : Act} {V : Notes}
theorem set_no (V : Notes) (k : Nat) (v : Value) : V.set k false v = V := by
  funext d
  unfold Notes.set
  by_cases e : d = k
  · rw [if_pos e, if_neg (by decide)]
  · rw [if_neg e]
/-- One operation that reads. -/
theorem reads (v : Value) (hk : T k = none) (hw : Region.wanted o (yielded ops a.tmps) = true) (hr : ∀ w, C w → (execOp a.eval o).run P w = .ok (.value v) w)
    (h : walkL P ops C T D (QL C T Q) (k + 1) rest (a.put o.dst v) V) : walkL P ops C T D (QL C T Q) k (o :: rest) a V := by
  refine ⟨_, .inl ⟨hw, hk, v, fun w hc => hr w hc, rfl⟩, fun u hu => ?_⟩
  have hu : u = v := hu
  subst hu
  rw [set_no]
  exact h
/-- One operation that isn't wanted. -/
theorem unwanted (hw : Region.wanted o (yielded ops a.tmps) = false) (h : walkL P ops C T D (QL C T Q) (k + 1) rest (a.put o.dst undef) V) : walkL P ops C T D (QL C T Q) k (o :: rest) a V := by
  refine ⟨_, .inr (.inr (.inr ⟨hw, rfl⟩)), fun u hu => ?_⟩
  have hu : u = undef := hu
  subst hu
  rw [set_no]
  exact h
/-- One call of which something is told. -/
theorem calls (t : Value → World → Prop) (f : FuncId) (args : Array Value) (hk : T k = some (.told t)) (hw : Region.wanted o (yielded ops a.tmps) = true) (hr : ∀ w, C w → (execOp a.eval o).run P w = .ok (.enter f args) w)
    (hc : ∀ w, C w → Holds T (D k) V w → Calls P f args w fun e w' => ∃ v, e = .returned v ∧ Below w.heap.size w w' ∧ t v w')
    (h : ∀ v, walkL P ops C T D (QL C T Q) (k + 1) rest (a.put o.dst v) (V.set k true v)) : walkL P ops C T D (QL C T Q) k (o :: rest) a V :=
  ⟨_, .inr (.inl ⟨hw, t, hk, fun w hC hH => ⟨f, args, hr w hC, hc w hC hH⟩, rfl⟩), fun v _ => h v⟩
/-- One call whose value is known. -/
theorem gives (u : Value) (f : FuncId) (args : Array Value) (hk : T k = some (.is u)) (hw : Region.wanted o (yielded ops a.tmps) = true) (hr : ∀ w, C w → (execOp a.eval o).run P w = .ok (.enter f args) w)
    (hc : ∀ w, C w → Holds T (D k) V w → Calls P f args w fun e w' => e = .returned u ∧ Below w.heap.size w w')
    (h : walkL P ops C T D (QL C T Q) (k + 1) rest (a.put o.dst u) V) : walkL P ops C T D (QL C T Q) k (o :: rest) a V := by
  refine ⟨_, .inr (.inr (.inl ⟨hw, u, hk, fun w hC hH => ⟨f, args, hr w hC, (hc w hC hH).mono fun e w' he => ⟨u, he.1, he.2, rfl⟩⟩, rfl⟩)), fun v hv => ?_⟩
  have hv : v = u := hv
  subst hv
  rw [set_no]
  exact h
theorem done (h : ∀ w', C w' → HoldsAll T V w' → Q .normal a w') : walkL P ops C T D (QL C T Q) k [] a V := h
end

/-- A fact that holds on. -/
def St (t : Value → World → Prop) : Prop := ∀ v w w', t v w → Below w.heap.size w w' → t v w'
inductive AllSt : List (Option Kind) → Prop
  | nil : AllSt []
  | none {r} : AllSt r → AllSt (none :: r)
  | is {v r} : AllSt r → AllSt (some (.is v) :: r)
  | told {t r} : St t → AllSt r → AllSt (some (.told t) :: r)
theorem stays {C : World → Prop} {ts : List (Option Kind)} (hg : ∀ w w', C w → Below w.heap.size w w' → C w') (h : AllSt ts) : Stays C (fun k => (ts[k]?).getD none) := by
  refine ⟨hg, fun i t ht => ?_⟩
  have key : ∀ (ts : List (Option Kind)) (i : Nat) (t), AllSt ts → (ts[i]?).getD none = some (.told t) → St t := by
    intro ts i t h
    induction h generalizing i with
    | nil => intro ht; simp at ht
    | none _ ih =>
      intro ht
      cases i with
      | zero => simp at ht
      | succ i => exact ih i (by simpa using ht)
    | is _ ih =>
      intro ht
      cases i with
      | zero => simp at ht
      | succ i => exact ih i (by simpa using ht)
    | told hs _ ih =>
      intro ht
      cases i with
      | zero =>
        have ht := Option.some.inj (show some _ = some (Kind.told t) from ht)
        injection ht with ht
        rw [← ht]
        exact hs
      | succ i => exact ih i (by simpa using ht)
  exact key ts i t h ht
def waitsB (ops : List Oper) (D : List (List Nat)) : Bool := (List.range ops.length).all fun j => match ops[j]? with
  | none => true
  | some o => ((D[j]?).getD []).all fun d => o.after.any fun e => Region.binds .any e && e.on == d
theorem waits {l : List Oper} {D : List (List Nat)} (h : waitsB l D = true) : Waits .any l.toArray (fun k => (D[k]?).getD []) := by
  intro j oj hj d hd
  have hj2 : l[j]? = some oj := by simpa using hj
  have hl : j < l.length := by
    rcases Nat.lt_or_ge j l.length with h1 | h1
    · exact h1
    · rw [List.getElem?_eq_none h1] at hj2; cases hj2
  have h1 := List.all_eq_true.1 h j (List.mem_range.2 hl)
  rw [hj2] at h1
  have h2 := List.all_eq_true.1 h1 d hd
  obtain ⟨i, hi, h3⟩ := Array.any_eq_true.1 h2
  rw [Bool.and_eq_true, beq_iff_eq] at h3
  exact ⟨_, Array.getElem_mem hi, h3.1, h3.2⟩
end Go.Proofs.YtgbpofgmomglfaaDoor.LooseD
