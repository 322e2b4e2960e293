/-
  Layer 23: read and Get, over the bytes of a good message.
-/
import Derived.Test.YtgbpofgmomglfaaDoorMsGp
namespace Go.Proofs.YtgbpofgmomglfaaDoor.Ms
open Oct (pb bs rng rInt rText rBool At Sep Gives)
open Gn (Asks)
open Go.RowKit
set_option maxRecDepth 100000
set_option linter.unusedSimpArgs false
set_option linter.unusedVariables false

theorem entCells_at : ∀ (l : List Ent) (i : Nat) (h : i < l.length) (j : Nat) (u : Value), (entC l[i])[j]? = some u → (entCells l)[i * 3 + j]? = some u
  | [], i, h, _, _, _ => absurd h (by simp)
  | x :: r, 0, h, j, u, hu => by
    have hj : j < (entC x).length := by
      rcases Nat.lt_or_ge j (entC x).length with h1 | h1
      · exact h1
      · have hu : (entC x)[j]? = some u := hu
        rw [List.getElem?_eq_none h1] at hu; cases hu
    show (entC x ++ entCells r)[0 * 3 + j]? = some u
    rw [Nat.zero_mul, Nat.zero_add, List.getElem?_append_left hj]
    exact hu
  | x :: r, i + 1, h, j, u, hu => by
    have := entCells_at r i (by simpa using h) j u (by simpa using hu)
    have hl : (entC x).length = 3 := rfl
    show (entC x ++ entCells r)[(i + 1) * 3 + j]? = some u
    rw [List.getElem?_append_right (by rw [hl]; omega), hl, show (i + 1) * 3 + j - 3 = i * 3 + j by omega]
    exact this
theorem ents_own {w : World} {base n cap : Nat} {A : Option Addr} {es : List Ent} (h : w.ownsRow base 100 3 (.slice A n cap) n (entCells es)) (hl : es.length = n) : Ents w A n es := by
  refine ⟨hl, fun h0 => ?_⟩
  rcases h.2 with ⟨hv, h2⟩ | ⟨r, cp, cur, hv, hbr, hhr, hrest⟩
  · omega
  · injection hv with e1 e2 e3
    subst e1
    refine ⟨r, 0, rfl, Gn.heap_lt hhr, fun i hi => ?_⟩
    have hc := h.cells (g := r) rfl
    have at_ : ∀ j (u : Value), (entC es[i])[j]? = some u → w.cell? ⟨r, i * 3 + j, none⟩ = some u := fun j u hu => by
      have := hc (i * 3 + j) u (entCells_at es i hi j u hu)
      rwa [Gn.add_row] at this
    rw [Nat.zero_add]
    exact ⟨at_ 0 _ rfl, at_ 1 _ rfl, at_ 2 _ rfl⟩
theorem ints_own {w : World} {base n cap : Nat} {A : Option Addr} {ks : List Int} (h : w.ownsRow base 3 1 (.slice A n cap) n (ks.map (Value.int .i64))) (hl : ks.length = n) : Ints w A n ks := by
  refine ⟨hl, fun h0 => ?_⟩
  rcases h.2 with ⟨hv, h2⟩ | ⟨r, cp, cur, hv, hbr, hhr, hrest⟩
  · omega
  · injection hv with e1 e2 e3
    subst e1
    refine ⟨r, 0, rfl, Gn.heap_lt hhr, fun i hi => ?_⟩
    have hc := h.cells (g := r) rfl
    rw [Nat.zero_add]
    have := hc i (.int .i64 (ks[i]'(by omega))) (by rw [List.getElem?_map, List.getElem?_eq_getElem (by omega)]; rfl)
    rw [Gn.add_row] at this
    rw [this, List.getD_eq_getElem?_getD, List.getElem?_eq_getElem (by omega)]
    rfl
theorem own_base {w : World} {base base' : Nat} {e : TypeId} {k : Nat} {v : Value} {n : Nat} {xs : List Value} (h : w.ownsRow base e k v n xs) (hb : base' ≤ base) : w.ownsRow base' e k v n xs := by
  refine ⟨h.1, ?_⟩
  rcases h.2 with h2 | ⟨r, cp, cur, hv, hbr, hrest⟩
  · exact .inl h2
  · exact .inr ⟨r, cp, cur, hv, Nat.le_trans hb hbr, hrest⟩
/-- A message and no error, as they are returned: its rows are new ones. -/
def Told (m : Msg) (w : World) (e : Ending) (w' : World) : Prop := ∃ A cap B cap2, e = .returned (.tuple #[.agg (cellsM m A cap B cap2), .int .i64 0]) ∧ w'.ownsRow w.heap.size 3 1 (.slice A m.known.length cap) m.known.length (m.known.map (Value.int .i64)) ∧ w'.ownsRow w.heap.size 100 3 (.slice B m.ents.length cap2) m.ents.length (entCells m.ents) ∧ Below w.heap.size w w'
theorem results_cell_tmp {P : Program} {fn : Func} {q t : Tmp} {uy : TypeId} (h : fn.results = #[.cell q uy, .tmp t]) (tmps : Array Value) (w : World) (k : Nat) (u : TypeId) (ds : Array Value) (fs : Nat × Nat) (e : TypeDesc)
    (hq : tmps.getD q undef = .pointer (some ⟨k, 0, none⟩)) (hk : w.heap[k]? = some (.cells ds u fs)) (hv : P.underlying uy = some e) (he : (match e with | .struct _ | .array _ _ => true | _ => false) = true) (hj : (P.info? uy).map (·.size) = some ds.size) :
    (results fn tmps).run P w = .ok (.tuple #[.agg ds, tmps.getD t undef]) w := by
  have hq' : tmps[q]?.getD undef = .pointer (some ⟨k, 0, none⟩) := by simpa using hq
  simp [results, h, hq', asAddr, run_loadVar_row w k u uy ds fs e hk hv he hj]
theorem setCells16 {w : World} {b : Nat} {z0 z1 z2 z3 z4 z5 z6 z7 z8 z9 z10 z11 z12 z13 z14 z15 c0 c1 c2 c3 c4 c5 c6 c7 c8 c9 c10 c11 c12 c13 c14 c15 : Value} {T : TypeId} (h : w.heap[b]? = some (.cells #[z0, z1, z2, z3, z4, z5, z6, z7, z8, z9, z10, z11, z12, z13, z14, z15] T (0, 0))) :
    (w.setCells b 0 [c0, c1, c2, c3, c4, c5, c6, c7, c8, c9, c10, c11, c12, c13, c14, c15]).heap[b]? = some (.cells #[c0, c1, c2, c3, c4, c5, c6, c7, c8, c9, c10, c11, c12, c13, c14, c15] T (0, 0)) ∧ (∀ k, b ≠ k → (w.setCells b 0 [c0, c1, c2, c3, c4, c5, c6, c7, c8, c9, c10, c11, c12, c13, c14, c15]).heap[k]? = w.heap[k]?) ∧ (∀ c, c ≤ b → Below c w (w.setCells b 0 [c0, c1, c2, c3, c4, c5, c6, c7, c8, c9, c10, c11, c12, c13, c14, c15])) := by
  have e : w.setCells b 0 [c0, c1, c2, c3, c4, c5, c6, c7, c8, c9, c10, c11, c12, c13, c14, c15] = ((((((((((((((((w).setCell ⟨b, 0, none⟩ c0).setCell ⟨b, 1, none⟩ c1).setCell ⟨b, 2, none⟩ c2).setCell ⟨b, 3, none⟩ c3).setCell ⟨b, 4, none⟩ c4).setCell ⟨b, 5, none⟩ c5).setCell ⟨b, 6, none⟩ c6).setCell ⟨b, 7, none⟩ c7).setCell ⟨b, 8, none⟩ c8).setCell ⟨b, 9, none⟩ c9).setCell ⟨b, 10, none⟩ c10).setCell ⟨b, 11, none⟩ c11).setCell ⟨b, 12, none⟩ c12).setCell ⟨b, 13, none⟩ c13).setCell ⟨b, 14, none⟩ c14).setCell ⟨b, 15, none⟩ c15 := rfl
  rw [e]
  refine ⟨?_, fun k hk => ?_, fun c hc => ?_⟩
  · have h := Gn.heap_set h 0 c0
    rw [show (#[z0, z1, z2, z3, z4, z5, z6, z7, z8, z9, z10, z11, z12, z13, z14, z15] : Array Value).setIfInBounds 0 c0 = #[c0, z1, z2, z3, z4, z5, z6, z7, z8, z9, z10, z11, z12, z13, z14, z15] from rfl] at h
    have h := Gn.heap_set h 1 c1
    rw [show (#[c0, z1, z2, z3, z4, z5, z6, z7, z8, z9, z10, z11, z12, z13, z14, z15] : Array Value).setIfInBounds 1 c1 = #[c0, c1, z2, z3, z4, z5, z6, z7, z8, z9, z10, z11, z12, z13, z14, z15] from rfl] at h
    have h := Gn.heap_set h 2 c2
    rw [show (#[c0, c1, z2, z3, z4, z5, z6, z7, z8, z9, z10, z11, z12, z13, z14, z15] : Array Value).setIfInBounds 2 c2 = #[c0, c1, c2, z3, z4, z5, z6, z7, z8, z9, z10, z11, z12, z13, z14, z15] from rfl] at h
    have h := Gn.heap_set h 3 c3
    rw [show (#[c0, c1, c2, z3, z4, z5, z6, z7, z8, z9, z10, z11, z12, z13, z14, z15] : Array Value).setIfInBounds 3 c3 = #[c0, c1, c2, c3, z4, z5, z6, z7, z8, z9, z10, z11, z12, z13, z14, z15] from rfl] at h
    have h := Gn.heap_set h 4 c4
    rw [show (#[c0, c1, c2, c3, z4, z5, z6, z7, z8, z9, z10, z11, z12, z13, z14, z15] : Array Value).setIfInBounds 4 c4 = #[c0, c1, c2, c3, c4, z5, z6, z7, z8, z9, z10, z11, z12, z13, z14, z15] from rfl] at h
    have h := Gn.heap_set h 5 c5
    rw [show (#[c0, c1, c2, c3, c4, z5, z6, z7, z8, z9, z10, z11, z12, z13, z14, z15] : Array Value).setIfInBounds 5 c5 = #[c0, c1, c2, c3, c4, c5, z6, z7, z8, z9, z10, z11, z12, z13, z14, z15] from rfl] at h
    have h := Gn.heap_set h 6 c6
    rw [show (#[c0, c1, c2, c3, c4, c5, z6, z7, z8, z9, z10, z11, z12, z13, z14, z15] : Array Value).setIfInBounds 6 c6 = #[c0, c1, c2, c3, c4, c5, c6, z7, z8, z9, z10, z11, z12, z13, z14, z15] from rfl] at h
    have h := Gn.heap_set h 7 c7
    rw [show (#[c0, c1, c2, c3, c4, c5, c6, z7, z8, z9, z10, z11, z12, z13, z14, z15] : Array Value).setIfInBounds 7 c7 = #[c0, c1, c2, c3, c4, c5, c6, c7, z8, z9, z10, z11, z12, z13, z14, z15] from rfl] at h
    have h := Gn.heap_set h 8 c8
    rw [show (#[c0, c1, c2, c3, c4, c5, c6, c7, z8, z9, z10, z11, z12, z13, z14, z15] : Array Value).setIfInBounds 8 c8 = #[c0, c1, c2, c3, c4, c5, c6, c7, c8, z9, z10, z11, z12, z13, z14, z15] from rfl] at h
    have h := Gn.heap_set h 9 c9
    rw [show (#[c0, c1, c2, c3, c4, c5, c6, c7, c8, z9, z10, z11, z12, z13, z14, z15] : Array Value).setIfInBounds 9 c9 = #[c0, c1, c2, c3, c4, c5, c6, c7, c8, c9, z10, z11, z12, z13, z14, z15] from rfl] at h
    have h := Gn.heap_set h 10 c10
    rw [show (#[c0, c1, c2, c3, c4, c5, c6, c7, c8, c9, z10, z11, z12, z13, z14, z15] : Array Value).setIfInBounds 10 c10 = #[c0, c1, c2, c3, c4, c5, c6, c7, c8, c9, c10, z11, z12, z13, z14, z15] from rfl] at h
    have h := Gn.heap_set h 11 c11
    rw [show (#[c0, c1, c2, c3, c4, c5, c6, c7, c8, c9, c10, z11, z12, z13, z14, z15] : Array Value).setIfInBounds 11 c11 = #[c0, c1, c2, c3, c4, c5, c6, c7, c8, c9, c10, c11, z12, z13, z14, z15] from rfl] at h
    have h := Gn.heap_set h 12 c12
    rw [show (#[c0, c1, c2, c3, c4, c5, c6, c7, c8, c9, c10, c11, z12, z13, z14, z15] : Array Value).setIfInBounds 12 c12 = #[c0, c1, c2, c3, c4, c5, c6, c7, c8, c9, c10, c11, c12, z13, z14, z15] from rfl] at h
    have h := Gn.heap_set h 13 c13
    rw [show (#[c0, c1, c2, c3, c4, c5, c6, c7, c8, c9, c10, c11, c12, z13, z14, z15] : Array Value).setIfInBounds 13 c13 = #[c0, c1, c2, c3, c4, c5, c6, c7, c8, c9, c10, c11, c12, c13, z14, z15] from rfl] at h
    have h := Gn.heap_set h 14 c14
    rw [show (#[c0, c1, c2, c3, c4, c5, c6, c7, c8, c9, c10, c11, c12, c13, z14, z15] : Array Value).setIfInBounds 14 c14 = #[c0, c1, c2, c3, c4, c5, c6, c7, c8, c9, c10, c11, c12, c13, c14, z15] from rfl] at h
    have h := Gn.heap_set h 15 c15
    rw [show (#[c0, c1, c2, c3, c4, c5, c6, c7, c8, c9, c10, c11, c12, c13, c14, z15] : Array Value).setIfInBounds 15 c15 = #[c0, c1, c2, c3, c4, c5, c6, c7, c8, c9, c10, c11, c12, c13, c14, c15] from rfl] at h
    exact h
  · repeat rw [Gn.set_keep _ _ _ hk]
  · exact ((((((((((((((((Below.refl c w).setCell hc _).setCell hc _).setCell hc _).setCell hc _).setCell hc _).setCell hc _).setCell hc _).setCell hc _).setCell hc _).setCell hc _).setCell hc _).setCell hc _).setCell hc _).setCell hc _).setCell hc _).setCell hc _
theorem step_store16 {ops : Array Oper} {o : Oper} {a : Act} {K : Act → World → Prop} {Q : Exit → Act → World → Prop} {E : Prop} (w : World) (hgd : o.guard = none) (ty : TypeId) (x y : Operand) (ho : o.op = .store ty x y)
    (b : Nat) (c0 c1 c2 c3 c4 c5 c6 c7 c8 c9 c10 c11 c12 c13 c14 c15 z0 z1 z2 z3 z4 z5 z6 z7 z8 z9 z10 z11 z12 z13 z14 z15 : Value) (T : TypeId) (hx : a.eval x = .pointer (some ⟨b, 0, none⟩)) (hy : a.eval y = .agg #[c0, c1, c2, c3, c4, c5, c6, c7, c8, c9, c10, c11, c12, c13, c14, c15]) (hb : w.heap[b]? = some (.cells #[z0, z1, z2, z3, z4, z5, z6, z7, z8, z9, z10, z11, z12, z13, z14, z15] T (0, 0)))
    (hi : (Tryd.prog.info? ty).map (·.size) = some 16) (h1 : #[c0, c1, c2, c3, c4, c5, c6, c7, c8, c9, c10, c11, c12, c13, c14, c15].all (·.oneCell') = true)
    (h : ∀ w', w'.heap[b]? = some (.cells #[c0, c1, c2, c3, c4, c5, c6, c7, c8, c9, c10, c11, c12, c13, c14, c15] T (0, 0)) → (∀ k, b ≠ k → w'.heap[k]? = w.heap[k]?) → (∀ c, c ≤ b → Below c w w') → K (a.put o.dst undef) w') :
    if Region.wanted o (yielded ops a.tmps) = true then Oper.wp Tryd.prog o a w K Q else E := by
  have hw : Region.wanted o (yielded ops a.tmps) = true := by simp [Region.wanted, hgd]
  rw [if_pos hw]
  obtain ⟨q1, q2, q3⟩ := setCells16 (c0 := c0) (c1 := c1) (c2 := c2) (c3 := c3) (c4 := c4) (c5 := c5) (c6 := c6) (c7 := c7) (c8 := c8) (c9 := c9) (c10 := c10) (c11 := c11) (c12 := c12) (c13 := c13) (c14 := c14) (c15 := c15) hb
  refine wp_store_mid (P := Tryd.prog) ty x y ho b 0 #[c0, c1, c2, c3, c4, c5, c6, c7, c8, c9, c10, c11, c12, c13, c14, c15] hx hy (fun j hj => ⟨?_, Gn.frozen_row hb _⟩) hi h1 (h _ q1 q2 q3)
  have hj : j < 16 := hj
  rw [cell_of_row _ _ (0 + j) _ _ (0, 0) hb]
  rw [Nat.zero_add]
  match j, hj with
  | 0, _ => rfl
  | 1, _ => rfl
  | 2, _ => rfl
  | 3, _ => rfl
  | 4, _ => rfl
  | 5, _ => rfl
  | 6, _ => rfl
  | 7, _ => rfl
  | 8, _ => rfl
  | 9, _ => rfl
  | 10, _ => rfl
  | 11, _ => rfl
  | 12, _ => rfl
  | 13, _ => rfl
  | 14, _ => rfl
  | 15, _ => rfl
  | j + 16, hj => exact absurd hj (by omega)
set_option maxHeartbeats 16000000 in
theorem read_good (m : Msg) (r : Int) (hgd : goodM m r = true) (t : ByteArray) (ht : bs t = bodyM m) (hts : t.size ≤ 9223372036854775807) (w : World) :
    Calls Tryd.prog 34 #[.string t, .int .i64 r] w (Told m w) := by
  have hg := good_of hgd
  obtain ⟨W0, hW0⟩ : ∃ W, W = w.alloc (.cells #[.int .i64 0, .int .i64 0, .int .i64 0, .slice none 0 0, .int .i64 0, .int .i64 0, .int .i64 0, .int .i64 0, .int .i64 0, .int .i64 0, .int .i64 0, .string ⟨#[]⟩, .bool false, .int .i64 0, .string ⟨#[]⟩, .slice none 0 0] 53) := ⟨_, rfl⟩
  have hb0 : Below w.heap.size w W0 := by rw [hW0]; exact (Below.refl _ w).alloc (Nat.le_refl _) _
  have hq0 : W0.heap[w.heap.size]? = some (.cells #[.int .i64 0, .int .i64 0, .int .i64 0, .slice none 0 0, .int .i64 0, .int .i64 0, .int .i64 0, .int .i64 0, .int .i64 0, .int .i64 0, .int .i64 0, .string ⟨#[]⟩, .bool false, .int .i64 0, .string ⟨#[]⟩, .slice none 0 0] 53 (0, 0)) := by rw [hW0]; exact heap_alloc_new w _
  obtain ⟨q0, hq⟩ : ∃ q, q = w.heap.size := ⟨_, rfl⟩
  rw [← hq] at hq0
  obtain ⟨ib, hib⟩ : ∃ q, q = W0.heap.size := ⟨_, rfl⟩
  obtain ⟨W1, hW1⟩ : ∃ W, W = W0.alloc (.cells #[.string t, .int .i64 0] 138) := ⟨_, rfl⟩
  obtain ⟨W2, hW2⟩ : ∃ W, W = W1.alloc (.cells #[.pointer (some ⟨ib, 0, none⟩), .int .i64 r, .bool false] 123) := ⟨_, rfl⟩
  obtain ⟨rb, hrb⟩ : ∃ q, q = W1.heap.size := ⟨_, rfl⟩
  have hi1 : At 138 W1 ib (.ok (bodyM m)) := by rw [hW1, hib, ← ht]; exact Oct.At.new _ t W0 hts
  have hb1 : Below W0.heap.size W0 W1 := by rw [hW1]; exact (Below.refl _ _).alloc (Nat.le_refl _) _
  have hb2 : Below W1.heap.size W1 W2 := by rw [hW2]; exact (Below.refl _ _).alloc (Nat.le_refl _) _
  have hi2 : At 138 W2 ib (.ok (bodyM m)) := hi1.below hb2
  have hr2 : W2.heap[rb]? = some (.cells #[.pointer (some ⟨ib, 0, none⟩), .int .i64 r, .bool false] 123 (0, 0)) := by rw [hW2, hrb]; exact heap_alloc_new _ _
  have hT := Oct.int_in_any ib _ W2 hi2
  unfold bodyM at hT
  rw [rInt_of m.kind _ (by have := hg.k1; have := hg.k12; unfold rng; omega)] at hT
  have HOP := Lib.hid (show Calls Tryd.prog 60 #[.string t] W0 (fun e w' => e = .returned (.pointer (some ⟨ib, 0, none⟩)) ∧ w' = W1) by
    rw [hib, hW1]; exact Oct.open_any t W0)
  have HT := Lib.hid hT
  have HG := Lib.hid hg
  have HGD := Lib.hid hgd
  have HW0 := Lib.hid hW0
  have HW2 := Lib.hid hW2
  have HB0 := Lib.hid hb0
  have HB1 := Lib.hid hb1
  have HB2 := Lib.hid hb2
  have HQ0 := Lib.hid hq0
  have HR2 := Lib.hid hr2
  have HQ := Lib.hid hq
  have HIB := Lib.hid hib
  have HRB := Lib.hid hrb
  have hW1s : W1.heap.size = W0.heap.size + 1 := by rw [hW1]; simp
  have HS1 := Lib.hid hW1s
  clear hgd ht hts hg hW0 hW1 hW2 hb0 hb1 hb2 hq0 hr2 hq hib hrb hT hi1 hi2 hW1s
  go_enter Tryd.func34, Tryd.ntmps34
  go_upto_region 1 with fail
  rw [← HW0.out, ← HQ.out]
  go_wp2_with fail
  refine HOP.out.mono ?_
  rintro e w1 ⟨rfl, rfl⟩
  go_upto_region 2 with fail
  rw [← HW2.out, ← HRB.out]
  have x0 := cell_of_row _ _ 0 _ _ (0, 0) HR2.out
  go_wp2_with fail
  refine HT.out.mono ?_
  rintro e w3 ⟨rfl, ha3, hs3⟩
  obtain ⟨enc, henc⟩ : ∃ l, l = ((showA m.kind m.full).map (encA m)).flatten := ⟨_, rfl⟩
  rw [← henc] at ha3
  have HENC := Lib.hid henc
  have HA3 := Lib.hid ha3
  have HS3 := Lib.hid hs3
  clear ha3 hs3 henc x0
  obtain ⟨W4, hW4⟩ : ∃ W, W = w3.alloc (.cells #[.int .i64 m.kind, .int .i64 0, .int .i64 0, .slice none 0 0, .int .i64 0, .int .i64 0, .int .i64 0, .int .i64 0, .int .i64 0, .int .i64 0, .int .i64 0, .string ⟨#[]⟩, .bool false, .int .i64 0, .string ⟨#[]⟩, .slice none 0 0] 53) := ⟨_, rfl⟩
  obtain ⟨mb, hmb⟩ : ∃ q, q = w3.heap.size := ⟨_, rfl⟩
  have hib := HIB.out
  have hrb := HRB.out
  have hs1 := HS1.out
  have hsz3 := HS3.out.size
  have hrl : rb < W2.heap.size := Gn.heap_lt HR2.out
  have hfix : RdFix ⟨W0, mb, rb, ib, r, m⟩ := ⟨by show W0.heap.size ≤ mb; omega, by show W0.heap.size ≤ rb; omega, by show W0.heap.size ≤ ib; omega, by show mb ≠ rb; omega, by show mb ≠ ib; omega, by show rb ≠ ib; omega⟩
  have hb4 : Below w3.heap.size w3 W4 := by rw [hW4]; exact (Below.refl _ _).alloc (Nat.le_refl _) _
  have hrd3 : w3.heap[rb]? = some (.cells #[.pointer (some ⟨ib, 0, none⟩), .int .i64 r, .bool false] 123 (0, 0)) := (HS3.out.block rb hrl (by omega)).trans HR2.out
  have hbel3 : Below W0.heap.size W0 w3 := (HB1.out.trans (HB2.out.mono HB1.out.size)).trans (HS3.out.below (by omega) (by omega))
  have hR4 : RdR ⟨W0, mb, rb, ib, r, m⟩ ⟨zeroM m.kind, enc⟩ W4 := by
    refine ⟨⟨none, 0, none, 0, ?_, ⟨rfl, .inl ⟨rfl, rfl⟩⟩, ⟨rfl, .inl ⟨rfl, rfl⟩⟩⟩, HA3.out.below hb4, (hb4.block _ (Gn.heap_lt hrd3)).trans hrd3, hbel3.trans (hb4.mono hbel3.size), rfl⟩
    show W4.heap[mb]? = _
    rw [hW4, hmb]
    exact heap_alloc_new w3 _
  have hOK : RdOk ⟨W0, mb, rb, ib, r, m⟩ := ⟨HG.out.num, Nat.le_trans HG.out.text (by decide), HG.out.state, (by
    show r = (m.known.length : Int) ∨ m.kind = 1
    rcases HG.out.known with h | ⟨h, _⟩
    · exact .inr h
    · exact .inl h.symm), Nat.le_trans HG.out.kn (by decide), HG.out.kj, Nat.le_trans HG.out.en (by decide), fun y hy => (HG.out.ej y hy).1⟩
  have HFX := Lib.hid hfix
  have HR4 := Lib.hid hR4
  have HOK := Lib.hid hOK
  have HW4 := Lib.hid hW4
  have HMB := Lib.hid hmb
  clear hW4 hmb hib hrb hs1 hsz3 hrl hfix hb4 hrd3 hbel3 hR4 hOK HT HOP HB1 HB2 HS1 HA3 HS3 HW2 HR2
  have HER := Lib.hid (fun (s : RdS) (w : World) (h : RdR ⟨W0, mb, rb, ib, r, m⟩ s w) => show Calls Tryd.prog 62 #[.pointer (some ⟨ib, 0, none⟩)] w (fun e w' => e = .returned (.int .i64 0) ∧ w = w') from Oct.err_any ib _ w h.ins)
  have HX0 := Lib.hid (fun (s : RdS) (w : World) (h : RdR ⟨W0, mb, rb, ib, r, m⟩ s w) => show w.cell? ⟨rb, 0, none⟩ = some (.pointer (some ⟨ib, 0, none⟩)) from cell_of_row _ _ 0 _ _ (0, 0) h.rd)
  go_upto_region 3 with fail
  rw [← HW4.out, ← HMB.out]
  have x0 := HX0.out _ _ HR4.out
  have k0 : W4.cell? ⟨mb, 0, none⟩ = some (.int .i64 m.kind) := by
    obtain ⟨A, cap, B, cap2, h1, _⟩ := HR4.out.msg
    exact cell_of_row _ _ 0 _ _ (0, 0) h1
  have hkn : knownB m.kind = true := by
    have h1 := HG.out.k1
    have h2 := HG.out.k12
    unfold knownB
    rw [decide_eq_true h1, decide_eq_true h2]; rfl
  have HKN := Lib.hid (fun w => show Calls Tryd.prog 43 #[.int .i64 m.kind] w (Says true w) by rw [← hkn]; exact known_any m.kind w)
  clear hkn
  go_wp2_with fail
  refine (HER.out _ _ HR4.out).mono ?_
  rintro e w5 ⟨rfl, rfl⟩
  go_wp2_with fail
  refine (HKN.out _).mono ?_
  rintro e w5 ⟨rfl, b5⟩
  have HR5 := Lib.hid (HR4.out.below b5)
  clear b5 k0 x0
  have hmi : ∀ w : World, (Instr.makeInterface 125 (.pointer (some ⟨rb, 0, none⟩))).run Tryd.prog w = .ok (.iface 125 (.pointer (some ⟨rb, 0, none⟩))) w := fun w => by kernel_rfl
  have hss := show_shp m.kind m.full
  have hnd := acts_nod m.kind m.full HG.out.k1 HG.out.k12
  have hok := rd_Ok ⟨W0, mb, rb, ib, r, m⟩ (showA m.kind m.full) ⟨zeroM m.kind, enc⟩ [] (by rw [HENC.out, List.append_nil]) hss.1 hnd.1 (fun h => ⟨rfl, hnd.2.1 h⟩) (fun _ => rfl) (fun h => by
    have hk := hnd.2.2 h
    have hz := HG.out.size
    unfold sizeM at hz
    rw [if_pos hk] at hz
    show m.ents.length = 1
    omega)
  have hsh := show_any (rdV ⟨W0, mb, rb, ib, r, m⟩) (rd_ok _ HFX.out HOK.out) _ w5 HR5.out HG.out.k1 HG.out.k12 hok.1
  have hsh : Calls Tryd.prog 29 #[.pointer (some ⟨mb, 0, none⟩), .iface 125 (.pointer (some ⟨rb, 0, none⟩))] w5 (fun e w' => e = .returned (.tuple #[]) ∧ RdR ⟨W0, mb, rb, ib, r, m⟩ ((rdV ⟨W0, mb, rb, ib, r, m⟩).after ⟨zeroM m.kind, enc⟩ (showA m.kind m.full)) w') := hsh
  rw [hok.2] at hsh
  have hag : (showA m.kind m.full).foldl (setA m) (zeroM m.kind) = m := again m HG.out.k1 HG.out.k12 HG.out.bare
  have HSH := Lib.hid (show Calls Tryd.prog 29 #[.pointer (some ⟨mb, 0, none⟩), .iface 125 (.pointer (some ⟨rb, 0, none⟩))] w5 (fun e w' => e = .returned (.tuple #[]) ∧ RdR ⟨W0, mb, rb, ib, r, m⟩ ⟨m, []⟩ w') by
    rw [show (⟨(showA m.kind m.full).foldl (setA m) (zeroM m.kind), []⟩ : RdS) = ⟨m, []⟩ by rw [hag]] at hsh
    exact hsh)
  clear hss hnd hok hsh hag
  go_wp2_with fail
  clear hmi
  refine HSH.out.mono ?_
  rintro e w6 ⟨rfl, hr6⟩
  have HR6 := Lib.hid hr6
  have x0 := HX0.out _ _ hr6
  clear hr6
  go_wp2_with fail
  refine (HER.out _ _ HR6.out).mono ?_
  rintro e w7 ⟨rfl, rfl⟩
  obtain ⟨A, cap, B, cap2, hx6⟩ := HR6.out.x
  obtain ⟨AG, hAG⟩ : ∃ v, v = Value.agg (cellsM m A cap B cap2) := ⟨_, rfl⟩
  have HX6 := Lib.hid hx6
  have HLD := Lib.hid (fun (w' : World) (h : w'.heap[mb]? = some (.cells (cellsM m A cap B cap2) 53 (0, 0))) => show (loadVar 53 ⟨mb, 0, none⟩).run Tryd.prog w' = .ok AG w' by
    rw [hAG]
    exact run_loadVar_row w' _ _ 53 _ _ _ h Tryd.underlying53 rfl (by kernel_rfl))
  have hint : Ints w6 A m.known.length m.known := ints_own hx6.kn rfl
  have hent : Ents w6 B m.ents.length m.ents := ents_own hx6.es rfl
  have HGO := Lib.hid (show Calls Tryd.prog 27 #[AG, .int .i64 r] w6 (Says true w6) by
    have h := good_any m.kind m.frm m.born m.known m.view m.last m.op m.commit m.client m.number m.nonce m.text m.full m.base m.state m.ents A m.known.length cap B m.ents.length cap2 r w6 rfl rfl hint hent (Nat.le_trans HG.out.kn (by decide)) (Nat.le_trans HG.out.en (by decide))
    rw [show goodM ⟨m.kind, m.frm, m.born, m.known, m.view, m.last, m.op, m.commit, m.client, m.number, m.nonce, m.text, m.full, m.base, m.state, m.ents⟩ r = true from HGD.out] at h
    rw [hAG]
    exact h)
  have HAG := Lib.hid hAG
  clear hint hent hx6 hAG
  have x2 : w6.cell? ⟨rb, 2, none⟩ = some (.bool false) := cell_of_row _ _ 2 _ _ (0, 0) HX6.out.rd
  have hload := HLD.out _ HX6.out.msg
  go_upto_region 9 with fail
  go_wp2_with (first | (refine wpList_load (by rfl) 53 _ rfl _ rfl _ hload ?_) | fail)
  refine HGO.out.mono ?_
  rintro e w8 ⟨rfl, b8⟩
  have HX8 := Lib.hid (HX6.out.below b8)
  clear b8 x2 x0 hload HGO
  go_upto_region 11 with fail
  have HPT := Lib.hid (HX8.out.below (Gn.below_drew (Below.refl _ _)))
  refine wp_region_noPanic ?_
  refine wp_region_held_drew (S := (fun w : World => w.heap[mb]? = some (.cells (cellsM m A cap B cap2) 53 (0, 0)) ∧ w.cell? ⟨rb, 0, none⟩ = some (.pointer (some ⟨ib, 0, none⟩)))) (by kernel_rfl) ?_ (fun hHeld => ?_)
  · exact ⟨HPT.out.msg, cell_of_row _ _ 0 _ _ (0, 0) HPT.out.rd⟩
  conv in Array.replicate _ false => change #[false, false, false, false, false, false]
  refine wpAnyH_take (i := 0) (v := AG) rfl (by kernel_rfl) (by kernel_rfl) (by kernel_rfl) (fun _ _ _ h => h) (Or.inl ⟨by rfl, fun w hS => exec_load _ _ 53 _ _ AG w rfl rfl (HLD.out w hS.1)⟩) (by assumption) ?_
  try simp only [Act.put, List.getElem_toArray, List.getElem_cons_zero, List.getElem_cons_succ, List.setIfInBounds_toArray, List.set_cons_zero, List.set_cons_succ]
  refine wpAnyH_take (i := 1) (v := ?_) rfl (by kernel_rfl) (by kernel_rfl) (by kernel_rfl) (fun _ _ _ h => h) (Or.inl ⟨by rfl, ?_⟩) (by assumption) ?_
  rotate_left
  · intro w hSw
    have hS2 := hSw.2
    clear hSw
    go_simp
    try with_reducible rfl
  try simp only [Act.put, List.getElem_toArray, List.getElem_cons_zero, List.getElem_cons_succ, List.setIfInBounds_toArray, List.set_cons_zero, List.set_cons_succ]
  refine wpAnyH_take (i := 2) (v := ?_) rfl (by kernel_rfl) (by kernel_rfl) (by kernel_rfl) (fun _ _ _ h => h) (Or.inl ⟨by rfl, ?_⟩) (by assumption) ?_
  rotate_left
  · intro w hSw
    have hS2 := hSw.2
    clear hSw
    go_simp
    try with_reducible rfl
  try simp only [Act.put, List.getElem_toArray, List.getElem_cons_zero, List.getElem_cons_succ, List.setIfInBounds_toArray, List.set_cons_zero, List.set_cons_succ]
  refine wpAnyH_ready (rs := [3]) (by kernel_rfl) (by simp) ?_
  refine AllReadyH.cons rfl (fun K hK => ?_) AllReadyH.nil
  refine step_call1 _ (by rfl) 63 (.tmp 48) _ (by rfl) (.pointer (some ⟨ib, 0, none⟩)) (by simp [Act.eval]) (fun args w => by kernel_rfl) ?_
  refine (Oct.end_any ib _ _ HPT.out.ins).mono ?_
  rintro e w9 ⟨rfl, rfl⟩
  refine ⟨_, rfl, ?_⟩
  refine hK.out _ _ ⟨HPT.out.msg, cell_of_row _ _ 0 _ _ (0, 0) HPT.out.rd⟩ (fun hHeld => ?_)
  clear hK K
  try simp only [Act.put, List.getElem_toArray, List.getElem_cons_zero, List.getElem_cons_succ, List.setIfInBounds_toArray, List.set_cons_zero, List.set_cons_succ]
  refine wpAnyH_ready (rs := [4]) (by kernel_rfl) (by simp) ?_
  refine AllReadyH.cons rfl (fun K hK => ?_) AllReadyH.nil
  have hq8 : w8.drew.heap[q0]? = some (.cells #[.int .i64 0, .int .i64 0, .int .i64 0, .slice none 0 0, .int .i64 0, .int .i64 0, .int .i64 0, .int .i64 0, .int .i64 0, .int .i64 0, .int .i64 0, .string ⟨#[]⟩, .bool false, .int .i64 0, .string ⟨#[]⟩, .slice none 0 0] 53 (0, 0)) := (HPT.out.bel.block q0 (Gn.heap_lt HQ0.out)).trans HQ0.out
  have hag := HAG.out
  refine step_store16 _ (by rfl) 53 (.tmp 4) (.tmp 46) (by rfl) q0 (.int .i64 m.kind) (.int .i64 m.frm) (.int .i64 m.born) (.slice A m.known.length cap) (.int .i64 m.view) (.int .i64 m.last) (.int .i64 m.op) (.int .i64 m.commit) (.int .i64 m.client) (.int .i64 m.number) (.int .i64 m.nonce) (.string m.text) (.bool m.full) (.int .i64 m.base) (.string m.state) (.slice B m.ents.length cap2) _ _ _ _ _ _ _ _ _ _ _ _ _ _ _ _ _ (by simp [Act.eval]) (by simp [Act.eval]; exact hag) hq8 (by kernel_rfl) (by simp [Value.oneCell']) ?_
  intro w9 hst hoth hbel
  have HST := Lib.hid hst
  have HOT := Lib.hid hoth
  have HBL := Lib.hid hbel
  clear hst hoth hbel hq8 hag
  have HNE := Lib.hid (show q0 ≠ mb ∧ q0 ≠ rb from by have h1 := Gn.heap_lt HQ0.out; have h2 := HFX.out.mb0; have h3 := HFX.out.rb0; have h2 : W0.heap.size ≤ mb := h2; have h3 : W0.heap.size ≤ rb := h3; omega)
  refine hK.out _ _ ⟨(HOT.out _ HNE.out.1).trans HPT.out.msg, cell_of_row _ _ 0 _ _ (0, 0) ((HOT.out _ HNE.out.2).trans HPT.out.rd)⟩ (fun hHeld => ?_)
  clear hK K
  try simp only [Act.put, List.getElem_toArray, List.getElem_cons_zero, List.getElem_cons_succ, List.setIfInBounds_toArray, List.set_cons_zero, List.set_cons_succ]
  refine wpAnyH_take (i := 5) (v := ?_) rfl (by kernel_rfl) (by kernel_rfl) (by kernel_rfl) (fun _ _ _ h => h) (Or.inl ⟨by rfl, ?_⟩) (by assumption) ?_
  rotate_left
  · intro w hSw
    have hS2 := hSw.2
    clear hSw
    go_simp
    try with_reducible rfl
  try simp only [Act.put, List.getElem_toArray, List.getElem_cons_zero, List.getElem_cons_succ, List.setIfInBounds_toArray, List.set_cons_zero, List.set_cons_succ]
  refine wpAnyH_done (by kernel_rfl) ?_ _
  refine NoPanic.normal ?_
  go_wp2_with fail
  refine bodyPost_ret (results_cell_tmp (P := Tryd.prog) rfl _ _ q0 53 _ (0, 0) _ (by rfl) HST.out Tryd.underlying53 rfl (by kernel_rfl)) rfl ?_
  have hkey : ∀ (e : TypeId), e ≠ 53 → ∀ (r : Nat) (cs : Array Value) (fr : Nat × Nat), w8.drew.heap[r]? = some (Obj.cells cs e fr) → w9.heap[r]? = w8.drew.heap[r]? := fun e he r cs fr hr => HOT.out r (fun hh => by
    have hq8 : w8.drew.heap[q0]? = some (.cells #[.int .i64 0, .int .i64 0, .int .i64 0, .slice none 0 0, .int .i64 0, .int .i64 0, .int .i64 0, .int .i64 0, .int .i64 0, .int .i64 0, .int .i64 0, .string ⟨#[]⟩, .bool false, .int .i64 0, .string ⟨#[]⟩, .slice none 0 0] 53 (0, 0)) := (HPT.out.bel.block q0 (Gn.heap_lt HQ0.out)).trans HQ0.out
    rw [← hh, hq8] at hr
    injection hr with hr
    injection hr with _ h2
    exact he h2.symm)
  have hwq : w.heap.size ≤ q0 := by rw [HQ.out]; exact Nat.le_refl _
  refine ⟨A, cap, B, cap2, rfl, own_base (own_same HPT.out.kn (hkey _ (by decide))) HB0.out.size, own_base (own_same HPT.out.es (hkey _ (by decide))) HB0.out.size, ?_⟩
  exact ((HB0.out.trans (HPT.out.bel.mono HB0.out.size)).trans (HBL.out _ hwq))
end Go.Proofs.YtgbpofgmomglfaaDoor.Ms
