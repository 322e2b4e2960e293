/-
  A region that draws its order, whose own operations only read and whose calls may lay new blocks: one walk in the order of the text serves every order.
  What a call tells must hold on however the world grows; what stands behind the region is asked in every world of the class in which all that was told holds.
-/
import Derived.Still
import Derived.Below
import Derived.Tactics
import Derived.Tactics2
import Derived.KernelRfl
namespace Go.Proofs.Ytlkijnglpllcdaa.Loose
open Go Go.RowKit

/-- What an operation may leave in its slot, and what is told of it. -/
structure Tau where
  ok : Value → Prop
  fact : Value → World → Prop

section
variable {P : Program} {ops : Array Oper} {md : Region.Mode} {C : World → Prop} {T : Nat → Option (Value → World → Prop)}

/-- It yields this value, and the world is the same. -/
def Reads (P : Program) (o : Oper) (a : Act) (w : World) (v : Value) : Prop :=
  (execOp a.eval o).run P w = .ok (.value v) w ∨ ((execOp a.eval o).run P w = .ok .skip w ∧ v = undef)
/-- It calls a function that lays new blocks at most, and tells t. -/
def Tells (P : Program) (o : Oper) (a : Act) (t : Value → World → Prop) (w : World) : Prop :=
  ∃ f args, (execOp a.eval o).run P w = .ok (.enter f args) w ∧ Calls P f args w fun e w' => ∃ v, e = .returned v ∧ Below w.heap.size w w' ∧ t v w'

def Good (P : Program) (ops : Array Oper) (C : World → Prop) (T : Nat → Option (Value → World → Prop)) (i : Nat) (o : Oper) (a : Act) (x : Tau) : Prop :=
  (Region.wanted o (yielded ops a.tmps) = true ∧ T i = none ∧ ∃ v, (∀ w, C w → Reads P o a w v) ∧ x = ⟨(· = v), fun _ _ => True⟩) ∨
  (Region.wanted o (yielded ops a.tmps) = true ∧ ∃ t, T i = some t ∧ (∀ w, C w → Tells P o a t w) ∧ x = ⟨fun _ => True, t⟩) ∨
  (Region.wanted o (yielded ops a.tmps) = false ∧ x = ⟨(· = undef), fun _ _ => True⟩)

theorem Reads.one {o : Oper} {a : Act} {w : World} {v u : Value} (h : Reads P o a w v) (k : Reads P o a w u) : v = u := by
  rcases h with h | ⟨h, rfl⟩ <;> rcases k with k | ⟨k, rfl⟩
  · rw [h] at k; injection k with k; injection k
  · rw [h] at k; injection k with k; cases k
  · rw [h] at k; injection k with k; cases k
  · rfl

theorem Good.one {i : Nat} {o : Oper} {a : Act} {x y : Tau} {w : World} (hw : C w) (h : Good P ops C T i o a x) (k : Good P ops C T i o a y) : x = y := by
  rcases h with ⟨h1, h2, v, h3, h4⟩ | ⟨h1, t, h2, h3, h4⟩ | ⟨h1, h4⟩ <;> rcases k with ⟨k1, k2, u, k3, k4⟩ | ⟨k1, s, k2, k3, k4⟩ | ⟨k1, k4⟩
  · have := (h3 w hw).one (k3 w hw)
    subst this
    rw [h4, k4]
  · rw [h2] at k2; cases k2
  · rw [h1] at k1; cases k1
  · rw [h2] at k2; cases k2
  · rw [h2] at k2
    injection k2 with k2
    subst k2
    rw [h4, k4]
  · rw [h1] at k1; cases k1
  · rw [h1] at k1; cases k1
  · rw [h1] at k1; cases k1
  · rw [h4, k4]

theorem Good.some_ok {i : Nat} {o : Oper} {a : Act} {x : Tau} (h : Good P ops C T i o a x) : ∃ v, x.ok v := by
  rcases h with ⟨_, _, v, _, rfl⟩ | ⟨_, t, _, _, rfl⟩ | ⟨_, rfl⟩
  · exact ⟨v, rfl⟩
  · exact ⟨undef, trivial⟩
  · exact ⟨undef, rfl⟩

theorem Good.same {i : Nat} {o : Oper} {a a' : Act} {x : Tau} (he : execOp a'.eval o = execOp a.eval o) (hw : Region.wanted o (yielded ops a'.tmps) = Region.wanted o (yielded ops a.tmps)) (h : Good P ops C T i o a x) : Good P ops C T i o a' x := by
  unfold Good Reads Tells at *
  rw [he, hw]
  exact h

/-- Operation number i comes up. -/
def step1 (P : Program) (ops : Array Oper) (C : World → Prop) (T : Nat → Option (Value → World → Prop)) (i : Nat) (K : Act → (World → Prop) → Prop) (a : Act) (F : World → Prop) : Prop :=
  match ops[i]? with
  | none => K a F
  | some o => ∃ x, Good P ops C T i o a x ∧ ∀ v, x.ok v → K (a.put o.dst v) (fun w => F w ∧ x.fact v w)

theorem step1_mono {i : Nat} {a : Act} {F : World → Prop} {K K' : Act → (World → Prop) → Prop} (h : ∀ a F, K a F → K' a F) (hh : step1 P ops C T i K a F) : step1 P ops C T i K' a F := by
  unfold step1 at *
  split
  · rename_i ho; simp only [ho] at hh; exact h _ _ hh
  · rename_i o ho
    simp only [ho] at hh
    obtain ⟨x, h1, h2⟩ := hh
    exact ⟨x, h1, fun v hv => h _ _ (h2 v hv)⟩

/-- Whatever order is picked from here on. -/
def wpL (P : Program) (md : Region.Mode) (ops : Array Oper) (C : World → Prop) (T : Nat → Option (Value → World → Prop)) (Q : Act → (World → Prop) → Prop) : Nat → Array Bool → Act → (World → Prop) → Prop
  | 0, listed, a, F => Region.ready md ops listed = [] ∧ Q a F
  | fuel + 1, listed, a, F =>
    (Region.ready md ops listed = [] → Q a F) ∧ ∀ i ∈ Region.ready md ops listed, step1 P ops C T i (wpL P md ops C T Q fuel (listed.setIfInBounds i true)) a F

theorem wpL_more {Q : Act → (World → Prop) → Prop} (hQ : ∀ a F F', (∀ w, F' w → F w) → Q a F → Q a F') : ∀ (fuel : Nat) (listed : Array Bool) (a : Act) (F F' : World → Prop), (∀ w, F' w → F w) → wpL P md ops C T Q fuel listed a F → wpL P md ops C T Q fuel listed a F'
  | 0, _, _, _, _, hF, h => ⟨h.1, hQ _ _ _ hF h.2⟩
  | fuel + 1, listed, a, F, F', hF, h => by
    refine ⟨fun h0 => hQ _ _ _ hF (h.1 h0), fun i hi => ?_⟩
    have h2 := h.2 i hi
    unfold step1 at *
    split
    · rename_i ho; simp only [ho] at h2; exact wpL_more hQ fuel _ _ _ _ hF h2
    · rename_i o ho
      simp only [ho] at h2
      obtain ⟨x, h3, h4⟩ := h2
      exact ⟨x, h3, fun v hv => wpL_more hQ fuel _ _ _ _ (fun w ⟨k1, k2⟩ => ⟨hF w k1, k2⟩) (h4 v hv)⟩

/-- The class, and what is told, hold on. -/
structure Stays (C : World → Prop) (T : Nat → Option (Value → World → Prop)) : Prop where
  grows : ∀ w w', C w → Below w.heap.size w w' → C w'
  told : ∀ i t, T i = some t → ∀ v w w', t v w → Below w.heap.size w w' → t v w'

theorem wpAny_of_wpL {Q : Act → (World → Prop) → Prop} {Q' : Exit → Act → World → Prop} (hS : Stays C T) (hQ : ∀ a F w, C w → F w → Q a F → Q' .normal a w) : ∀ (fuel : Nat) (listed : Array Bool) (a : Act) (F : World → Prop) (w : World), (∀ w w', F w → Below w.heap.size w w' → F w') → C w → F w → wpL P md ops C T Q fuel listed a F → wpAny P md ops Q' fuel listed a w
  | 0, _, _, _, _, _, hw, hF, h => ⟨h.1, hQ _ _ _ hw hF h.2⟩
  | fuel + 1, listed, a, F, w, hst, hw, hF, h => by
    refine ⟨fun h0 => hQ _ _ _ hw hF (h.1 h0), fun i hi => ?_⟩
    have h2 := h.2 i hi
    unfold step1 at h2
    unfold wpOp
    split
    · rename_i ho; simp only [ho] at h2; exact wpAny_of_wpL hS hQ fuel _ _ _ _ hst hw hF h2
    · rename_i o ho
      simp only [ho] at h2
      obtain ⟨x, h3, h4⟩ := h2
      rcases h3 with ⟨h1, _, v, h3, rfl⟩ | ⟨h1, t, ht, h3, rfl⟩ | ⟨h1, rfl⟩
      · rw [if_pos h1]
        left
        have h5 := wpAny_of_wpL hS hQ fuel _ _ _ w (fun w w' k b => ⟨hst w w' k.1 b, trivial⟩) hw ⟨hF, trivial⟩ (h4 v rfl)
        unfold Oper.wp
        rcases h3 w hw with h9 | ⟨h9, rfl⟩
        · rw [h9]; exact h5
        · rw [h9]; exact h5
      · rw [if_pos h1]
        left
        obtain ⟨f, args, h6, hc⟩ := h3 w hw
        unfold Oper.wp
        rw [h6]
        refine hc.mono fun e w' ⟨v, he, hb, hv⟩ => ?_
        subst he
        exact wpAny_of_wpL hS hQ fuel _ _ _ w' (fun w w' k b => ⟨hst w w' k.1 b, hS.told i t ht v w w' k.2 b⟩) (hS.grows w w' hw hb) ⟨hst w w' hF hb, hv⟩ (h4 v trivial)
      · rw [if_neg (by rw [h1]; decide)]
        exact wpAny_of_wpL hS hQ fuel _ _ _ w (fun w w' k b => ⟨hst w w' k.1 b, trivial⟩) hw ⟨hF, trivial⟩ (h4 _ rfl)

/-- Two operations apart may change their places. -/
theorem step1_swap {i j : Nat} {oi oj : Oper} (hi : ops[i]? = some oi) (hj : ops[j]? = some oj) (hap : oi.apart ops oj = true) (hsi : ∀ cs b, oi.op ≠ .select cs b) (hsj : ∀ cs b, oj.op ≠ .select cs b) {w0 : World} (hw : C w0)
    {K : Act → (World → Prop) → Prop} (hK : ∀ a F F', (∀ w, F' w → F w) → K a F → K a F') {a : Act} {F : World → Prop} (h : step1 P ops C T i (step1 P ops C T j K) a F) : step1 P ops C T j (step1 P ops C T i K) a F := by
  obtain ⟨h1, h2, h3⟩ := Oper.apart_spec hap
  unfold step1 at *
  simp only [hi, hj] at *
  obtain ⟨x, hx, hn⟩ := h
  obtain ⟨v0, hv0⟩ := hx.some_ok
  obtain ⟨y, hy, _⟩ := hn v0 hv0
  have back : ∀ v, ∀ {z}, Good P ops C T j oj (a.put oi.dst v) z → Good P ops C T j oj a z := fun v z hz => hz.same (execOp_put oj hsj a oi.dst v h1).symm (wanted_put oj a oi.dst v h1).symm
  have hy' := back v0 hy
  refine ⟨y, hy', fun u hu => ⟨x, hx.same (execOp_put oi hsi a oj.dst u h3) (wanted_put oi a oj.dst u h3), fun v hv => ?_⟩⟩
  obtain ⟨y2, hy2, hn2⟩ := hn v hv
  have e := (back v hy2).one hw hy'
  subst e
  have := hn2 u hu
  rw [Act.put_comm a v u h2] at this
  exact hK _ _ _ (fun w ⟨⟨k1, k2⟩, k3⟩ => ⟨⟨k1, k3⟩, k2⟩) this

theorem wpL_first {Q : Act → (World → Prop) → Prop} (hQ : ∀ a F F', (∀ w, F' w → F w) → Q a F → Q a F') {w0 : World} (hw : C w0) {i : Nat} {oi : Oper} (hi : ops[i]? = some oi) (hsel : ∀ (j : Nat) (o : Oper) cs b, ops[j]? = some o → o.op ≠ .select cs b) :
    ∀ (fuel : Nat) (listed : Array Bool) (a : Act) (F : World → Prop),
      (∀ j oj, ops[j]? = some oj → j ≠ i → listed.getD j true = false → (∀ e ∈ oj.after, Region.binds md e = true → e.on ≠ i) → oi.apart ops oj = true) →
      i ∈ Region.ready md ops listed → step1 P ops C T i (wpL P md ops C T Q fuel (listed.setIfInBounds i true)) a F → wpL P md ops C T Q (fuel + 1) listed a F := by
  intro fuel
  induction fuel with
  | zero =>
    intro listed a F _ hr H
    refine ⟨fun h => (by rw [h] at hr; cases hr), fun j hj => ?_⟩
    by_cases hji : j = i
    · subst hji; exact H
    · exfalso
      have h1 := ready_mono hj hji
      unfold step1 at H
      simp only [hi] at H
      obtain ⟨x, hx, hn⟩ := H
      obtain ⟨v0, hv0⟩ := hx.some_ok
      have h2 := (hn v0 hv0).1
      rw [h2] at h1
      cases h1
  | succ fuel ih =>
    intro listed a F hfree hr H
    refine ⟨fun h => (by rw [h] at hr; cases hr), fun j hj => ?_⟩
    by_cases hji : j = i
    · subst hji; exact H
    · obtain ⟨hjun, oj, hoj, hall⟩ := mem_ready.1 hj
      have hnot : ∀ e ∈ oj.after, Region.binds md e = true → e.on ≠ i := fun e he hb heq => by
        have h1 := hall e he hb
        have h0 := (mem_ready.1 hr).1
        rw [heq] at h1
        rcases Nat.lt_or_ge i listed.size with h' | h'
        · simp [h'] at h0 h1; rw [h0] at h1; cases h1
        · simp [Array.getElem?_eq_none h'] at h1
      have h1 := step1_mono (K' := step1 P ops C T j (wpL P md ops C T Q fuel ((listed.setIfInBounds i true).setIfInBounds j true))) (fun a' F' hx => hx.2 j (ready_mono hj hji)) H
      have h2 := step1_swap hi hoj (hfree j oj hoj hji hjun hnot) (fun cs b => hsel i oi cs b hi) (fun cs b => hsel j oj cs b hoj) hw (fun a F F' hF hk => wpL_more hQ fuel _ a F F' hF hk) h1
      refine step1_mono (fun a' F' h3 => ih (listed.setIfInBounds j true) a' F' (fun k ok hk hki hun hno => ?_) (ready_mono hr (Ne.symm hji)) (by rw [Array.setIfInBounds_comm _ _ hji]; exact h3)) h2
      refine hfree k ok hk hki ?_ hno
      by_cases hjk : j = k
      · subst hjk; exact hjun
      · rw [getD_set_ne true hjk] at hun; exact hun

/-- The walk in the order of the text. -/
def walkL (P : Program) (ops : Array Oper) (C : World → Prop) (T : Nat → Option (Value → World → Prop)) (Q : Act → (World → Prop) → Prop) : Nat → List Oper → Act → (World → Prop) → Prop
  | _, [], a, F => Q a F
  | k, o :: rest, a, F => ∃ x, Good P ops C T k o a x ∧ ∀ v, x.ok v → walkL P ops C T Q (k + 1) rest (a.put o.dst v) (fun w => F w ∧ x.fact v w)

theorem wpL_lex {Q : Act → (World → Prop) → Prop} (hQ : ∀ a F F', (∀ w, F' w → F w) → Q a F → Q a F') {w0 : World} (hw : C w0) (hs : Region.noSelect ops = true) : ∀ (l : List Oper) (k : Nat) (listed : Array Bool) (a : Act) (F : World → Prop), (∀ j, l[j]? = ops[k + j]?) →
    Region.lexFrom md ops l.length k listed = true → walkL P ops C T Q k l a F → wpL P md ops C T Q l.length listed a F
  | [], _, _, _, _, _, hB, h => ⟨by simpa [Region.lexFrom] using hB, h⟩
  | o :: l, k, listed, a, F, hl, hB, h => by
    have h0 : ops[k]? = some o := by simpa using (hl 0).symm
    simp only [List.length_cons, Region.lexFrom, Bool.and_eq_true] at hB
    obtain ⟨⟨hr, hf⟩, hB'⟩ := hB
    refine wpL_first hQ hw h0 (Region.noSelect_spec hs) l.length listed a F (Region.free_spec h0 hf) (by simpa using hr) ?_
    unfold step1
    simp only [h0]
    obtain ⟨x, hx, hn⟩ := h
    exact ⟨x, hx, fun v hv => wpL_lex hQ hw hs l (k + 1) _ _ _ (fun j => by have := hl (j + 1); simpa [Nat.add_assoc, Nat.add_comm 1 j] using this) hB' (hn v hv)⟩

/-- What stands behind. -/
def QL (C : World → Prop) (Q : Exit → Act → World → Prop) : Act → (World → Prop) → Prop := fun a' F => ∀ w', C w' → F w' → Q .normal a' w'
theorem QL_more {Q : Exit → Act → World → Prop} : ∀ a F F', (∀ w, F' w → F w) → QL C Q a F → QL C Q a F' := fun _ _ _ hF hq w' hw' hF' => hq w' hw' (hF w' hF')

/-- The rule. -/
theorem region_loose {id : Nat} {Q : Exit → Act → World → Prop} {a : Act} {w : World} {l : List Oper} (C : World → Prop) (T : Nat → Option (Value → World → Prop)) (hm : P.follows .mixedOrders = true) (hB : Region.lexB .any l.toArray = true) (hS : Stays C T) (hC : C w.drew)
    (h : walkL P l.toArray C T (QL C Q) 0 l a (fun _ => True)) : (Code.region id l.toArray true).wp P Q a w := by
  simp only [Region.lexB, Bool.and_eq_true] at hB
  refine wp_region_any hm (wpAny_of_wpL (Q := QL C Q) hS (fun _ _ w' hw' hF h => h w' hw' hF) _ _ _ (fun _ => True) _ (fun _ _ _ _ => trivial) hC trivial ?_)
  have := wpL_lex (C := C) (T := T) (md := .any) (Q := QL C Q) QL_more hC hB.1 l 0 (Array.replicate l.toArray.size false) a (fun _ => True) (by simp) (by simpa using hB.2) h
  simpa using this

theorem walkL_more {Q : Act → (World → Prop) → Prop} (hQ : ∀ a F F', (∀ w, F' w → F w) → Q a F → Q a F') : ∀ (l : List Oper) (k : Nat) (a : Act) (F F' : World → Prop), (∀ w, F' w → F w) → walkL P ops C T Q k l a F → walkL P ops C T Q k l a F'
  | [], _, _, _, _, hF, h => hQ _ _ _ hF h
  | _ :: l, k, a, F, F', hF, h => by
    obtain ⟨x, hx, hn⟩ := h
    exact ⟨x, hx, fun v hv => walkL_more hQ l (k + 1) _ _ _ (fun w ⟨k1, k2⟩ => ⟨hF w k1, k2⟩) (hn v hv)⟩
variable {Q : Exit → Act → World → Prop} {k : Nat} {o : Oper} {rest : List Oper} {a : Act} {F : World → Prop}
/-- One operation that reads. -/
theorem reads (v : Value) (hk : T k = none) (hw : Region.wanted o (yielded ops a.tmps) = true) (hr : ∀ w, C w → (execOp a.eval o).run P w = .ok (.value v) w)
    (h : walkL P ops C T (QL C Q) (k + 1) rest (a.put o.dst v) F) : walkL P ops C T (QL C Q) k (o :: rest) a F := by
  refine ⟨_, .inl ⟨hw, hk, v, fun w hc => .inl (hr w hc), rfl⟩, fun u hu => ?_⟩
  have hu : u = v := hu
  subst hu
  exact walkL_more QL_more _ _ _ _ _ (fun w hF => hF.1) h
/-- One operation that isn't wanted. -/
theorem unwanted (hw : Region.wanted o (yielded ops a.tmps) = false) (h : walkL P ops C T (QL C Q) (k + 1) rest (a.put o.dst undef) F) : walkL P ops C T (QL C Q) k (o :: rest) a F := by
  refine ⟨_, .inr (.inr ⟨hw, rfl⟩), fun u hu => ?_⟩
  have hu : u = undef := hu
  subst hu
  exact walkL_more QL_more _ _ _ _ _ (fun w hF => hF.1) h
/-- One call. -/
theorem calls (t : Value → World → Prop) (f : FuncId) (args : Array Value) (hk : T k = some t) (hw : Region.wanted o (yielded ops a.tmps) = true) (hr : ∀ w, C w → (execOp a.eval o).run P w = .ok (.enter f args) w)
    (hc : ∀ w, C w → Calls P f args w fun e w' => ∃ v, e = .returned v ∧ Below w.heap.size w w' ∧ t v w')
    (h : ∀ v, walkL P ops C T (QL C Q) (k + 1) rest (a.put o.dst v) (fun w => F w ∧ t v w)) : walkL P ops C T (QL C Q) k (o :: rest) a F :=
  ⟨_, .inr (.inl ⟨hw, t, hk, fun w hC => ⟨f, args, hr w hC, hc w hC⟩, rfl⟩), fun v _ => h v⟩
theorem done (h : ∀ w', C w' → F w' → Q .normal a w') : walkL P ops C T (QL C Q) k [] a F := h
end

/-- A fact that holds on. -/
def St (t : Value → World → Prop) : Prop := ∀ v w w', t v w → Below w.heap.size w w' → t v w'
inductive AllSt : List (Option (Value → World → Prop)) → Prop
  | nil : AllSt []
  | none {r} : AllSt r → AllSt (none :: r)
  | some {t r} : St t → AllSt r → AllSt (some t :: r)
theorem stays {C : World → Prop} {ts : List (Option (Value → World → Prop))} (hg : ∀ w w', C w → Below w.heap.size w w' → C w') (h : AllSt ts) : Stays C (fun k => (ts[k]?).getD none) := by
  refine ⟨hg, fun i t ht => ?_⟩
  have key : ∀ (ts : List (Option (Value → World → Prop))) (i : Nat) (t), AllSt ts → (ts[i]?).getD none = some t → St t := by
    intro ts i t h
    induction h generalizing i with
    | nil => intro ht; simp at ht
    | none _ ih =>
      intro ht
      cases i with
      | zero => simp at ht
      | succ i => exact ih i (by simpa using ht)
    | some hs _ ih =>
      intro ht
      cases i with
      | zero =>
        have ht := Option.some.inj (show some _ = some t from ht)
        rw [← ht]
        exact hs
      | succ i => exact ih i (by simpa using ht)
  exact key ts i t h ht
end Go.Proofs.Ytlkijnglpllcdaa.Loose
