/-
  Layer 23: what stands in memory while a raw message is made into two.
-/
import Derived.Test.YtfeelmblnkpfdaaDoorMsMo
import Derived.Test.YtfeelmblnkpfdaaDoorHeldU
namespace Go.Proofs.YtfeelmblnkpfdaaDoor.Ms
open Go.RowKit
set_option maxRecDepth 100000
set_option linter.unusedSimpArgs false
set_option linter.unusedVariables false
theorem p4 {α : Type} (l : List α) (i : Nat) (h : i < l.toArray.size) : l.toArray[i] = l[i]'(by simpa using h) := List.getElem_toArray ..
theorem p5 {α : Type} (x : α) (l : List α) (h : 0 < (x :: l).length) : (x :: l)[0] = x := rfl
theorem p6 {α : Type} (x : α) (l : List α) (i : Nat) (h : i + 1 < (x :: l).length) : (x :: l)[i + 1] = l[i]'(by simpa using h) := rfl
def mkE (m : Msg) (k : Nat) : Msg := { m with ents := m.ents.take k }
theorem mkE_all (m : Msg) : mkE m m.ents.length = m := by unfold mkE; rw [List.take_length]
theorem mkE_len (m : Msg) {k : Nat} (h : k ≤ m.ents.length) : (mkE m k).ents.length = k := by show (m.ents.take k).length = k; rw [List.length_take]; omega
theorem entCells_succ (l : List Ent) {k : Nat} (h : k < l.length) : entCells (l.take (k + 1)) = entCells (l.take k) ++ entC l[k] := by
  rw [List.take_succ_eq_append_getElem h]
  unfold entCells
  rw [List.map_append, List.flatten_append]
  simp only [List.map_cons, List.map_nil, List.flatten_cons, List.flatten_nil, List.append_nil]
/-- What stands in memory in the loop: the two boxes, the copied row of numbers, the two rows of entries. -/
structure LSt (V : World) (pa pb : Nat) (m : Msg) (A : Option Addr) (c1 : Nat) (a : Option Addr) (c0 : Nat) (k : Nat) (B : Option Addr) (c2 : Nat) (D : Option Addr) (c3 : Nat) (v1 : Value) (k1 : Nat) (v2 : Value) (k2 : Nat) (w : World) : Prop where
  bel : Below V.heap.size V w
  qa : V.heap.size ≤ pa
  qb : V.heap.size ≤ pb
  ne : pa ≠ pb
  boxA : w.heap[pa]? = some (.cells (cellsM (mkE m k) A c1 B c2) 31 (0, 0))
  boxB : w.heap[pb]? = some (.cells (cellsM (mkE m k) a c0 D c3) 34 (0, 0))
  ownK : w.ownsRow V.heap.size 3 1 (.slice A m.known.length c1) m.known.length (m.known.map (Value.int .i64))
  own1 : w.ownsRow V.heap.size 54 3 v1 k1 (entCells (m.ents.take k1))
  own2 : w.ownsRow V.heap.size 53 3 v2 k2 (entCells (m.ents.take k2))
section
variable {V w w' : World} {pa pb : Nat} {m : Msg} {A : Option Addr} {c1 : Nat} {a : Option Addr} {c0 k : Nat} {B : Option Addr} {c2 : Nat} {D : Option Addr} {c3 : Nat} {v1 : Value} {k1 : Nat} {v2 : Value} {k2 : Nat}
theorem LSt.below (h : LSt V pa pb m A c1 a c0 k B c2 D c3 v1 k1 v2 k2 w) (b : Below w.heap.size w w') : LSt V pa pb m A c1 a c0 k B c2 D c3 v1 k1 v2 k2 w' :=
  ⟨h.bel.trans (b.mono h.bel.size), h.qa, h.qb, h.ne, (b.block _ (Gn.heap_lt h.boxA)).trans h.boxA, (b.block _ (Gn.heap_lt h.boxB)).trans h.boxB, own_same h.ownK fun r cs fr hr => b.block _ (Gn.heap_lt hr), own_same h.own1 fun r cs fr hr => b.block _ (Gn.heap_lt hr), own_same h.own2 fun r cs fr hr => b.block _ (Gn.heap_lt hr)⟩
theorem LSt.grow1 (h : LSt V pa pb m A c1 a c0 k B c2 D c3 v1 k1 v2 k2 w) (hk : k1 < m.ents.length) {v : Value} (hown : w'.ownsRow V.heap.size 54 3 v (k1 + 1) (entCells (m.ents.take k1) ++ entC m.ents[k1])) (hg : w.grownBy w' v1.ownBlock) : LSt V pa pb m A c1 a c0 k B c2 D c3 v (k1 + 1) v2 k2 w' := by
  refine ⟨grown_bel hg h.own1 h.bel, h.qa, h.qb, h.ne, (grown_far hg h.own1 _ (by decide) _ _ _ h.boxA).trans h.boxA, (grown_far hg h.own1 _ (by decide) _ _ _ h.boxB).trans h.boxB, own_same h.ownK (grown_far hg h.own1 _ (by decide)), ?_, own_same h.own2 (grown_far hg h.own1 _ (by decide))⟩
  rw [entCells_succ m.ents hk]
  exact hown
theorem LSt.grow2 (h : LSt V pa pb m A c1 a c0 k B c2 D c3 v1 k1 v2 k2 w) (hk : k2 < m.ents.length) {v : Value} (hown : w'.ownsRow V.heap.size 53 3 v (k2 + 1) (entCells (m.ents.take k2) ++ entC m.ents[k2])) (hg : w.grownBy w' v2.ownBlock) : LSt V pa pb m A c1 a c0 k B c2 D c3 v1 k1 v (k2 + 1) w' := by
  refine ⟨grown_bel hg h.own2 h.bel, h.qa, h.qb, h.ne, (grown_far hg h.own2 _ (by decide) _ _ _ h.boxA).trans h.boxA, (grown_far hg h.own2 _ (by decide) _ _ _ h.boxB).trans h.boxB, own_same h.ownK (grown_far hg h.own2 _ (by decide)), own_same h.own1 (grown_far hg h.own2 _ (by decide)), ?_⟩
  rw [entCells_succ m.ents hk]
  exact hown
/-- Both rows are stored. -/
theorem LSt.stored {B2 D2 : Option Addr} {d2 d3 : Nat} (h : LSt V pa pb m A c1 a c0 k B c2 D c3 (.slice B2 (k + 1) d2) (k + 1) (.slice D2 (k + 1) d3) (k + 1) w) (hk : k < m.ents.length) :
    LSt V pa pb m A c1 a c0 (k + 1) B2 d2 D2 d3 (.slice B2 (k + 1) d2) (k + 1) (.slice D2 (k + 1) d3) (k + 1) ((w.setCell ⟨pa, 15, none⟩ (.slice B2 (k + 1) d2)).setCell ⟨pb, 15, none⟩ (.slice D2 (k + 1) d3)) := by
  obtain ⟨W1, hW1⟩ : ∃ x, x = w.setCell ⟨pa, 15, none⟩ (.slice B2 (k + 1) d2) := ⟨_, rfl⟩
  have e1 : ∀ r, pa ≠ r → W1.heap[r]? = w.heap[r]? := fun r hr => by rw [hW1]; exact Gn.set_keep _ _ _ hr
  have hb1 : W1.heap[pb]? = some (.cells (cellsM (mkE m k) a c0 D c3) 34 (0, 0)) := (e1 _ h.ne).trans h.boxB
  rw [← hW1]
  have e2 : ∀ r, pb ≠ r → (W1.setCell ⟨pb, 15, none⟩ (.slice D2 (k + 1) d3)).heap[r]? = W1.heap[r]? := fun r hr => Gn.set_keep _ _ _ hr
  have key : ∀ (e : TypeId), e ≠ 31 → e ≠ 34 → ∀ (r : Nat) (cs : Array Value) (fr : Nat × Nat), w.heap[r]? = some (Obj.cells cs e fr) → (W1.setCell ⟨pb, 15, none⟩ (.slice D2 (k + 1) d3)).heap[r]? = w.heap[r]? := fun e he hf r cs fr hr => by
    have n1 : pa ≠ r := fun hh => by
      rw [← hh, h.boxA] at hr
      injection hr with hr
      injection hr with _ h2
      exact he h2.symm
    have n2 : pb ≠ r := fun hh => by
      rw [← hh, h.boxB] at hr
      injection hr with hr
      injection hr with _ h2
      exact hf h2.symm
    exact (e2 r n2).trans (e1 r n1)
  have hbel : Below V.heap.size V W1 := by rw [hW1]; exact h.bel.setCell h.qa _
  have hl : (m.ents.take k).length = k := by rw [List.length_take]; omega
  have hl2 : (m.ents.take (k + 1)).length = k + 1 := by rw [List.length_take]; omega
  refine ⟨hbel.setCell h.qb _, h.qa, h.qb, h.ne, ?_, ?_, own_same h.ownK (key _ (by decide) (by decide)), own_same h.own1 (key _ (by decide) (by decide)), own_same h.own2 (key _ (by decide) (by decide))⟩
  · rw [e2 _ (Ne.symm h.ne), hW1]
    have := Gn.heap_set h.boxA 15 (.slice B2 (k + 1) d2)
    rw [this]
    simp only [cellsM, mkE, hl2]
    simp
  · have := Gn.heap_set hb1 15 (.slice D2 (k + 1) d3)
    rw [this]
    simp only [cellsM, mkE, hl2]
    simp
end
theorem ents_own_any {w : World} {base n cap : Nat} {e : TypeId} {A : Option Addr} {es : List Ent} (h : w.ownsRow base e 3 (.slice A n cap) n (entCells es)) (hl : es.length = n) : Ents w A n es := by
  refine ⟨hl, fun h0 => ?_⟩
  rcases h.2 with ⟨hv, h2⟩ | ⟨r, cp, cur, hv, hbr, hhr, hrest⟩
  · omega
  · injection hv with e1 e2 e3
    subst e1
    refine ⟨r, 0, rfl, Gn.heap_lt hhr, fun i hi => ?_⟩
    have hc := h.cells (g := r) rfl
    have at_ : ∀ j (u : Value), (entC es[i])[j]? = some u → w.cell? ⟨r, i * 3 + j, none⟩ = some u := fun j u hu => by
      have := hc (i * 3 + j) u (entCells_at es i hi j u hu)
      rwa [Gn.add_row] at this
    rw [Nat.zero_add]
    exact ⟨at_ 0 _ rfl, at_ 1 _ rfl, at_ 2 _ rfl⟩
/-- Two messages of which both are this one. -/
def MadeT (m : Msg) (w : World) (e : Ending) (w' : World) : Prop := ∃ v1 v2, e = .returned (.tuple #[v1, v2]) ∧ MsgAt w' m v1 ∧ MsgAt w' m v2 ∧ Below w.heap.size w w'
/-- What the copy of a message leaves: its box, without entries. -/
structure D1 (V w : World) (q : Nat) (m : Msg) (A : Option Addr) (c1 : Nat) : Prop where
  bel : Below V.heap.size V w
  q0 : V.heap.size ≤ q
  box : w.heap[q]? = some (.cells (cellsM (mkE m 0) A c1 none 0) 31 (0, 0))
  own : w.ownsRow V.heap.size 3 1 (.slice A m.known.length c1) m.known.length (m.known.map (Value.int .i64))
theorem D1.of {V w w' : World} {q n : Nat} {m : Msg} {A : Option Addr} {c1 : Nat} {zs : Array Value} (hb : Below V.heap.size V w) (hq : V.heap.size ≤ q) (hown : w.ownsRow V.heap.size 3 1 (.slice A n c1) n (m.known.map (Value.int .i64))) (hn : n = m.known.length) (hz : w.heap[q]? = some (.cells zs 31 (0, 0)))
    (hst : w'.heap[q]? = some (.cells #[.int .i64 m.kind, .int .i64 m.frm, .int .i64 m.born, .slice A n c1, .int .i64 m.view, .int .i64 m.last, .int .i64 m.op, .int .i64 m.commit, .int .i64 m.client, .int .i64 m.number, .int .i64 m.nonce, .string m.text, .bool m.full, .int .i64 m.base, .string m.state, .slice none 0 0] 31 (0, 0))) (hoth : ∀ k, q ≠ k → w'.heap[k]? = w.heap[k]?) (hbel : ∀ c, c ≤ q → Below c w w') : D1 V w' q m A c1 := by
  refine ⟨hb.trans (hbel _ hq), hq, ?_, ?_⟩
  · rw [hn] at hst; exact hst
  · rw [← hn]
    exact own_same hown fun r cs fr hr => hoth r fun hh => by
      rw [← hh, hz] at hr
      injection hr with hr
      injection hr with _ h2
      exact absurd h2 (by decide)
theorem D1.loop {V w w' : World} {q pb : Nat} {m : Msg} {A a : Option Addr} {c1 c0 : Nat} (h : D1 V w q m A c1) (hq : w.heap.size ≤ pb) (b : Below w.heap.size w w') (hb : w'.heap[pb]? = some (.cells (cellsM (mkE m 0) a c0 none 0) 34 (0, 0))) :
    LSt V q pb m A c1 a c0 0 none 0 none 0 (.slice none 0 0) 0 (.slice none 0 0) 0 w' :=
  ⟨h.bel.trans (b.mono h.bel.size), h.q0, Nat.le_trans h.bel.size hq, fun e => by have := Gn.heap_lt h.box; omega, (b.block _ (Gn.heap_lt h.box)).trans h.box, hb, own_same h.own fun r cs fr hr => b.block _ (Gn.heap_lt hr), ⟨rfl, .inl ⟨rfl, rfl⟩⟩, ⟨rfl, .inl ⟨rfl, rfl⟩⟩⟩
theorem ref_info : (Tryd.prog.info? 53).map (fun i => (i.zero, i.size, i.bytes)) = some (some (.agg #[.int .i64 0, .int .i64 0, .string ⟨#[]⟩]), 3, 32) := by kernel_rfl
theorem three_newT (w : World) (y : Ent) {b0 : Nat} {T : TypeId} (h : w.heap[b0]? = some (.cells #[.int .i64 y.client, .int .i64 y.number, .string y.text] T (0, 0))) : ∀ (j : Nat) (u : Value), (entC y)[j]? = some u → w.cell? ((⟨b0, 0, none⟩ : Addr).add j) = some u := three_new w y h
theorem results_cells2 {P : Program} {fn : Func} {p q : Tmp} {ty uy : TypeId} (h : fn.results = #[.cell p ty, .cell q uy]) (tmps : Array Value) (w : World) (g k : Nat) (t u : TypeId) (cs ds : Array Value) (fr fs : Nat × Nat) (d e : TypeDesc)
    (hp : tmps.getD p undef = .pointer (some ⟨g, 0, none⟩)) (hg : w.heap[g]? = some (.cells cs t fr)) (hu : P.underlying ty = some d) (hd : (match d with | .struct _ | .array _ _ => true | _ => false) = true) (hi : (P.info? ty).map (·.size) = some cs.size)
    (hq : tmps.getD q undef = .pointer (some ⟨k, 0, none⟩)) (hk : w.heap[k]? = some (.cells ds u fs)) (hv : P.underlying uy = some e) (he : (match e with | .struct _ | .array _ _ => true | _ => false) = true) (hj : (P.info? uy).map (·.size) = some ds.size) :
    (results fn tmps).run P w = .ok (.tuple #[.agg cs, .agg ds]) w := by
  have hp' : tmps[p]?.getD undef = .pointer (some ⟨g, 0, none⟩) := by simpa using hp
  have hq' : tmps[q]?.getD undef = .pointer (some ⟨k, 0, none⟩) := by simpa using hq
  simp [results, h, hp', hq', asAddr, run_loadVar_row w g t ty cs fr d hg hu hd hi, run_loadVar_row w k u uy ds fs e hk hv he hj]
end Go.Proofs.YtfeelmblnkpfdaaDoor.Ms
