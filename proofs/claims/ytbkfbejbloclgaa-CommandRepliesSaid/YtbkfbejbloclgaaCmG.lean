/-
  Layer 21: what Get tells, in plain words.
-/
import Derived.Test.YtbkfbejbloclgaaCmC
import Derived.Test.YtbkfbejbloclgaaRlRef
namespace Go.Proofs.Ytbkfbejbloclgaa.Cm
open Go.RowKit
open Oct (pb bs Strs rInt rText rTexts rErr rEnd At Sep Gives strV)
open Lx (goodB)
open Gn (Asks)
set_option maxRecDepth 100000
set_option linter.unusedSimpArgs false
set_option linter.unusedVariables false

/-- Reading numbers one behind the other. -/
def rNums (r : Oct.Rest) : Nat → List Int × Oct.Rest
  | 0 => ([], r)
  | k + 1 => ((rNums r k).1 ++ [(rInt (rNums r k).2).1], (rInt (rNums r k).2).2)
theorem rNums_len (r : Oct.Rest) (k : Nat) : (rNums r k).1.length = k := by
  induction k with
  | zero => rfl
  | succ k ih => simp [rNums, ih]
def readC (r : Oct.Rest) : Cmd × Oct.Rest :=
  (⟨(rInt r).1, mkS (rText (rInt r).2).1, mkS (rText (rText (rInt r).2).2).1, mkS (rText (rText (rText (rInt r).2).2).2).1, mkS (rText (rText (rText (rText (rInt r).2).2).2).2).1,
    (rTexts 64 (rText (rText (rText (rText (rInt r).2).2).2).2).2).1.map mkS,
    (rNums (rTexts 64 (rText (rText (rText (rText (rInt r).2).2).2).2).2).2 4).1.getD 0 0, (rNums (rTexts 64 (rText (rText (rText (rText (rInt r).2).2).2).2).2).2 4).1.getD 1 0,
    (rNums (rTexts 64 (rText (rText (rText (rText (rInt r).2).2).2).2).2).2 4).1.getD 2 0, (rNums (rTexts 64 (rText (rText (rText (rText (rInt r).2).2).2).2).2).2 4).1.getD 3 0⟩,
   (rNums (rTexts 64 (rText (rText (rText (rText (rInt r).2).2).2).2).2).2 4).2)
/-- What is wrong behind all. -/
def endC (b : Bool) : Oct.Rest → Nat
  | .error e => e
  | .ok l => if b = true then rEnd (.ok l) else 2
def zeroC : Cmd := ⟨0, ⟨#[]⟩, ⟨#[]⟩, ⟨#[]⟩, ⟨#[]⟩, [], 0, 0, 0, 0⟩
def getC (l : List UInt8) : Cmd × Nat := if endC (goodC (readC (.ok l)).1) (readC (.ok l)).2 = 0 then ((readC (.ok l)).1, 0) else (zeroC, endC (goodC (readC (.ok l)).1) (readC (.ok l)).2)
/-- Sizes that a machine can bear. -/
structure Fits (c : Cmd) : Prop where
  who : c.who.size ≤ 9223372036854775807
  nm : c.nm.size ≤ 9223372036854775807
  oth : c.oth.size ≤ 9223372036854775807
  txt : c.txt.size ≤ 9223372036854775807
  word : c.word.length ≤ 65536
/-- A value is a command. -/
def CmdAt (W : World) (c : Cmd) (v : Value) : Prop := ∃ a cap, v = .agg #[.int .i64 c.kind, .string c.who, .string c.nm, .string c.oth, .string c.txt, .slice a c.word.length cap, .int .i64 c.n0, .int .i64 c.n1, .int .i64 c.n2, .int .i64 c.n3] ∧ Strs W a c.word.length c.word
def GetOut (W : World) (q : Cmd × Nat) (e : Ending) (w' : World) : Prop := ∃ v, e = .returned (.tuple #[v, .int .i64 (q.2 : Int)]) ∧ CmdAt w' q.1 v ∧ Below W.heap.size W w'
theorem CmdAt.under {W W' : World} {c : Cmd} {v : Value} (h : CmdAt W c v) (b : Below W.heap.size W W') : CmdAt W' c v := by
  obtain ⟨a, cap, e, hs⟩ := h
  exact ⟨a, cap, e, Strs.under hs b⟩
theorem zero_at (W : World) : CmdAt W zeroC (.agg #[.int .i64 0, .string ⟨#[]⟩, .string ⟨#[]⟩, .string ⟨#[]⟩, .string ⟨#[]⟩, .slice none 0 0, .int .i64 0, .int .i64 0, .int .i64 0, .int .i64 0]) := ⟨none, 0, rfl, rfl, fun h => absurd h (by decide)⟩
theorem rText_len (r : Oct.Rest) : (rText r).1.length ≤ 65536 := by
  have h1 := Oct.rLen_le 65536 r
  unfold rText
  split
  · simp
  · rename_i n l h
    rw [h] at h1
    dsimp only at h1
    split
    · simp
    · rw [List.length_take]; omega
theorem rTexts_len (m : Int) (r : Oct.Rest) : (rTexts m r).1.length ≤ 65536 := by
  have h1 := Oct.rLen_le (min m 65536) r
  have h2 : min m 65536 ≤ 65536 := Int.min_le_right _ _
  have h3 := Oct.rStrs_len (Oct.rLen (min m 65536) r).2 (Oct.rLen (min m 65536) r).1.toNat
  unfold rTexts
  rcases hq : Oct.rStrs (Oct.rLen (min m 65536) r).2 (Oct.rLen (min m 65536) r).1.toNat with ⟨z, x⟩
  rw [hq] at h3
  dsimp only at h3
  cases x with
  | error e => simp [Oct.allStrs]
  | ok l => show z.length ≤ _; omega
theorem readC_fits (r : Oct.Rest) : Fits (readC r).1 := by
  refine ⟨?_, ?_, ?_, ?_, ?_⟩
  · have := rText_len (rInt r).2; show (mkS _).size ≤ _; rw [mkS_size]; omega
  · have := rText_len (rText (rInt r).2).2; show (mkS _).size ≤ _; rw [mkS_size]; omega
  · have := rText_len (rText (rText (rInt r).2).2).2; show (mkS _).size ≤ _; rw [mkS_size]; omega
  · have := rText_len (rText (rText (rText (rInt r).2).2).2).2; show (mkS _).size ≤ _; rw [mkS_size]; omega
  · have := rTexts_len 64 (rText (rText (rText (rText (rInt r).2).2).2).2).2; show (List.map _ _).length ≤ _; rw [List.length_map]; omega
theorem getC_fits (l : List UInt8) : Fits (getC l).1 := by
  unfold getC
  split
  · exact readC_fits _
  · exact (show Fits zeroC from ⟨by decide, by decide, by decide, by decide, by decide⟩)
/-- A row of texts that is owned. -/
theorem strs_own {w : World} {base n cap : Nat} {A : Option Addr} {zs : List (List UInt8)} (h : w.ownsRow base 9 1 (.slice A n cap) n (zs.map strV)) : Strs w A n (zs.map mkS) := by
  have h1 := h.1
  rw [List.length_map, Nat.mul_one] at h1
  refine ⟨by rw [List.length_map]; exact h1, fun h0 => ?_⟩
  rcases h.2 with ⟨hv, h2⟩ | ⟨r, cp, cur, hv, hbr, hhr, hrest⟩
  · omega
  · injection hv with e1 e2 e3
    subst e1
    refine ⟨r, 0, rfl, Gn.heap_lt hhr, fun i hi => ?_⟩
    have hc := h.cells (g := r) rfl
    rw [Nat.zero_add]
    have := hc i (strV (zs[i]'(by omega))) (by rw [List.getElem?_map, List.getElem?_eq_getElem (by omega)]; rfl)
    rw [Gn.add_row] at this
    rw [this, List.getD_eq_getElem?_getD, List.getElem?_map, List.getElem?_eq_getElem (by omega)]
    rfl
theorem set10 {w : World} {b : Nat} {T : TypeId} {z0 z1 z2 z3 z4 z5 z6 z7 z8 z9 : Value} (h : w.heap[b]? = some (.cells #[z0, z1, z2, z3, z4, z5, z6, z7, z8, z9] T (0, 0))) (v0 v1 v2 v3 v4 v5 v6 v7 v8 v9 : Value) :
    ((((((((((w.setCell ⟨b, 0, none⟩ v0).setCell ⟨b, 1, none⟩ v1).setCell ⟨b, 2, none⟩ v2).setCell ⟨b, 3, none⟩ v3).setCell ⟨b, 4, none⟩ v4).setCell ⟨b, 5, none⟩ v5).setCell ⟨b, 6, none⟩ v6).setCell ⟨b, 7, none⟩ v7).setCell ⟨b, 8, none⟩ v8).setCell ⟨b, 9, none⟩ v9).heap[b]? = some (.cells #[v0, v1, v2, v3, v4, v5, v6, v7, v8, v9] T (0, 0)) := by
  have h := Gn.heap_set h 0 v0
  rw [show (#[z0, z1, z2, z3, z4, z5, z6, z7, z8, z9] : Array Value).setIfInBounds 0 v0 = #[v0, z1, z2, z3, z4, z5, z6, z7, z8, z9] from rfl] at h
  have h := Gn.heap_set h 1 v1
  rw [show (#[v0, z1, z2, z3, z4, z5, z6, z7, z8, z9] : Array Value).setIfInBounds 1 v1 = #[v0, v1, z2, z3, z4, z5, z6, z7, z8, z9] from rfl] at h
  have h := Gn.heap_set h 2 v2
  rw [show (#[v0, v1, z2, z3, z4, z5, z6, z7, z8, z9] : Array Value).setIfInBounds 2 v2 = #[v0, v1, v2, z3, z4, z5, z6, z7, z8, z9] from rfl] at h
  have h := Gn.heap_set h 3 v3
  rw [show (#[v0, v1, v2, z3, z4, z5, z6, z7, z8, z9] : Array Value).setIfInBounds 3 v3 = #[v0, v1, v2, v3, z4, z5, z6, z7, z8, z9] from rfl] at h
  have h := Gn.heap_set h 4 v4
  rw [show (#[v0, v1, v2, v3, z4, z5, z6, z7, z8, z9] : Array Value).setIfInBounds 4 v4 = #[v0, v1, v2, v3, v4, z5, z6, z7, z8, z9] from rfl] at h
  have h := Gn.heap_set h 5 v5
  rw [show (#[v0, v1, v2, v3, v4, z5, z6, z7, z8, z9] : Array Value).setIfInBounds 5 v5 = #[v0, v1, v2, v3, v4, v5, z6, z7, z8, z9] from rfl] at h
  have h := Gn.heap_set h 6 v6
  rw [show (#[v0, v1, v2, v3, v4, v5, z6, z7, z8, z9] : Array Value).setIfInBounds 6 v6 = #[v0, v1, v2, v3, v4, v5, v6, z7, z8, z9] from rfl] at h
  have h := Gn.heap_set h 7 v7
  rw [show (#[v0, v1, v2, v3, v4, v5, v6, z7, z8, z9] : Array Value).setIfInBounds 7 v7 = #[v0, v1, v2, v3, v4, v5, v6, v7, z8, z9] from rfl] at h
  have h := Gn.heap_set h 8 v8
  rw [show (#[v0, v1, v2, v3, v4, v5, v6, v7, z8, z9] : Array Value).setIfInBounds 8 v8 = #[v0, v1, v2, v3, v4, v5, v6, v7, v8, z9] from rfl] at h
  have h := Gn.heap_set h 9 v9
  rw [show (#[v0, v1, v2, v3, v4, v5, v6, v7, v8, z9] : Array Value).setIfInBounds 9 v9 = #[v0, v1, v2, v3, v4, v5, v6, v7, v8, v9] from rfl] at h
  exact h

theorem below10 {W w : World} {b : Nat} (hb : W.heap.size ≤ b) (h : Below W.heap.size W w) (v0 v1 v2 v3 v4 v5 v6 v7 v8 v9 : Value) : Below W.heap.size W ((((((((((w.setCell ⟨b, 0, none⟩ v0).setCell ⟨b, 1, none⟩ v1).setCell ⟨b, 2, none⟩ v2).setCell ⟨b, 3, none⟩ v3).setCell ⟨b, 4, none⟩ v4).setCell ⟨b, 5, none⟩ v5).setCell ⟨b, 6, none⟩ v6).setCell ⟨b, 7, none⟩ v7).setCell ⟨b, 8, none⟩ v8).setCell ⟨b, 9, none⟩ v9) := ((((((((((h.setCell hb v0).setCell hb v1).setCell hb v2).setCell hb v3).setCell hb v4).setCell hb v5).setCell hb v6).setCell hb v7).setCell hb v8).setCell hb v9)
theorem cell10 {w : World} {b r : Nat} (hr : r ≠ b) (v0 v1 v2 v3 v4 v5 v6 v7 v8 v9 : Value) : ((((((((((w.setCell ⟨b, 0, none⟩ v0).setCell ⟨b, 1, none⟩ v1).setCell ⟨b, 2, none⟩ v2).setCell ⟨b, 3, none⟩ v3).setCell ⟨b, 4, none⟩ v4).setCell ⟨b, 5, none⟩ v5).setCell ⟨b, 6, none⟩ v6).setCell ⟨b, 7, none⟩ v7).setCell ⟨b, 8, none⟩ v8).setCell ⟨b, 9, none⟩ v9).heap[r]? = w.heap[r]? := by
  have hne : b ≠ r := fun e => hr e.symm
  repeat rw [Gn.set_keep _ _ _ hne]
theorem results_ct {P : Program} {fn : Func} {p q : Tmp} {uy : TypeId} (h : fn.results = #[.cell q uy, .tmp p]) (tmps : Array Value) (w : World) (k : Nat) (u : TypeId) (ds : Array Value) (fs : Nat × Nat) (e : TypeDesc) (v : Value)
    (hp : tmps.getD p undef = v) (hq : tmps.getD q undef = .pointer (some ⟨k, 0, none⟩)) (hk : w.heap[k]? = some (.cells ds u fs)) (hv : P.underlying uy = some e) (he : (match e with | .struct _ | .array _ _ => true | _ => false) = true) (hj : (P.info? uy).map (·.size) = some ds.size) :
    (results fn tmps).run P w = .ok (.tuple #[.agg ds, v]) w := by
  have hp' : tmps[p]?.getD undef = v := by simpa using hp
  have hq' : tmps[q]?.getD undef = .pointer (some ⟨k, 0, none⟩) := by simpa using hq
  simp [results, h, hp', hq', asAddr, run_loadVar_row w k u uy ds fs e hk hv he hj]
theorem own_far {w w' : World} {base : Nat} {e : TypeId} {size : Nat} {v : Value} {n : Nat} {xs : List Value} (hown : w.ownsRow base e size v n xs) {b : Nat} {T : TypeId} {cs : Array Value} {fr : Nat × Nat} (hb : w.heap[b]? = some (.cells cs T fr)) (hne : e ≠ T) (hk : ∀ r, r ≠ b → w'.heap[r]? = w.heap[r]?) : w'.ownsRow base e size v n xs := by
  refine ⟨hown.1, ?_⟩
  rcases hown.2 with h2 | ⟨r, cp, cur, hv, hbr, hhr, hrest⟩
  · exact .inl h2
  · refine .inr ⟨r, cp, cur, hv, hbr, (hk r (fun e2 => ?_)).trans hhr, hrest⟩
    subst e2
    rw [hhr] at hb
    injection hb with hb
    injection hb with _ e3
    exact hne e3
/-- The state of a Get while it reads: its result's block, its reader. -/
structure Rd (T U : TypeId) (z : Array Value) (W w : World) (rest : Oct.Rest) : Prop where
  bel : Below W.heap.size W w
  res : w.heap[W.heap.size]? = some (.cells z U (0, 0))
  inn : At T w (W.heap.size + 1) rest
section
variable {T U : TypeId} {z : Array Value} {W w w' : World} {r r' : Oct.Rest}
theorem Rd.lt (h : Rd T U z W w r) : W.heap.size + 1 < w.heap.size := h.inn.lt
theorem Rd.sep (h : Rd T U z W w r) (hs : Sep (W.heap.size + 1) w.heap.size w w') (ha : At T w' (W.heap.size + 1) r') : Rd T U z W w' r' :=
  ⟨h.bel.trans (hs.below (by omega) (by have := h.lt; omega)), (hs.block _ (by have := h.lt; omega) (by omega)).trans h.res, ha⟩
theorem Rd.under (h : Rd T U z W w r) (b : Below w.heap.size w w') : Rd T U z W w' r :=
  ⟨h.bel.trans (b.mono h.bel.size), (b.block _ (Gn.heap_lt h.res)).trans h.res, h.inn.below b⟩
end
/-- Four numbers in a command's cells, k of them read. -/
theorem set_num (a b c d e f : Value) (l : List Int) (k : Nat) (hl : l.length = k) (hk : k < 4) (x : Int) :
    (#[a, b, c, d, e, f, .int .i64 (l.getD 0 0), .int .i64 (l.getD 1 0), .int .i64 (l.getD 2 0), .int .i64 (l.getD 3 0)] : Array Value).setIfInBounds (6 + k) (.int .i64 x) =
    #[a, b, c, d, e, f, .int .i64 ((l ++ [x]).getD 0 0), .int .i64 ((l ++ [x]).getD 1 0), .int .i64 ((l ++ [x]).getD 2 0), .int .i64 ((l ++ [x]).getD 3 0)] := by
  subst hl
  match l, hk with
  | [], _ => rfl
  | [_], _ => rfl
  | [_, _], _ => rfl
  | [_, _, _], _ => rfl
end Go.Proofs.Ytbkfbejbloclgaa.Cm
