/-
  Layer 18: what stands between the steps of the document's Get.
  Layer 18: the document's Get.
-/
import Derived.Test.YtnmhgjoofgmcgaaRlTd
import Derived.Test.YtnmhgjoofgmcgaaRlRef
import Derived.Test.YtnmhgjoofgmcgaaRlBk
import Derived.Test.YtnmhgjoofgmcgaaRlGet
import Derived.Test.YtnmhgjoofgmcgaaRlRk

namespace Go.Proofs.Ytnmhgjoofgmcgaa.Rl
open Go.RowKit
open Fx (StrsAt)
open Oct (rInt rText rTexts rErr rEnd At Sep Gives bs)
set_option maxRecDepth 100000
set_option linter.unusedSimpArgs false
set_option linter.unusedVariables false
theorem rld_done {w : World} {r : Rol} {raws : List CRaw} {vm vc : Value} {B : Nat} (hm : w.ownsRow B 72 3 vm r.ms.length (cellsOf encM r.ms)) (hc : w.ownsRow B 73 3 vc r.cs.length (cellsOf encC raws)) (ha : AllC (fun b => B ≤ b) w raws r.cs) : RlAt (fun b => B ≤ b) w r (.agg #[vm, vc]) :=
  ⟨vm, vc, rfl, RowAt.of_own encM_len hm, raws, RowAt.of_own (l := raws) encC_len (by rw [ha.1]; exact hc), ha⟩
/-- Between Get's steps. -/
structure DtA (W w : World) (rest : Oct.Rest) (ms : List Mem) (cs : List Cls) (raws : List CRaw) (vm vc : Value) : Prop where
  bel : Below W.heap.size W w
  res : w.heap[W.heap.size]? = some (.cells #[.slice none 0 0, .slice none 0 0] 33 (0, 0))
  inn : At 69 w (W.heap.size + 1) rest
  box : w.heap[W.heap.size + 1 + 1]? = some (.cells #[vm, vc] 33 (0, 0))
  rm : w.ownsRow (W.heap.size + 3) 72 3 vm ms.length (cellsOf encM ms)
  rc : w.ownsRow (W.heap.size + 3) 73 3 vc cs.length (cellsOf encC raws)
  len : raws.length = cs.length
  own : ∀ (i : Nat) (h : i < raws.length) (h2 : i < cs.length), raws[i].name = cs[i].name ∧ raws[i].teacher = cs[i].teacher ∧ w.ownsRow (W.heap.size + 3) 9 1 raws[i].studs cs[i].studs.length (cs[i].studs.map Value.string)
section
variable {W w w' : World} {rest rest' : Oct.Rest} {ms : List Mem} {cs : List Cls} {raws : List CRaw} {vm vc : Value}
theorem DtA.sep (h : DtA W w rest ms cs raws vm vc) (hs : Sep (W.heap.size + 1) w.heap.size w w') (hat : At 69 w' (W.heap.size + 1) rest') : DtA W w' rest' ms cs raws vm vc := by
  have hk : ∀ q, q < w.heap.size → q ≠ W.heap.size + 1 → w'.heap[q]? = w.heap[q]? := hs.block
  have hlt := Gn.heap_lt h.box
  exact ⟨⟨hs.os.trans h.bel.os, hs.tape.trans h.bel.tape, hs.output.trans h.bel.output, Nat.le_trans h.bel.size hs.size, fun q hq => (hk q (by omega) (by omega)).trans (h.bel.block q hq)⟩, (hk _ (by omega) (by omega)).trans h.res, hat, (hk _ hlt (by omega)).trans h.box, own_keep h.rm fun q hq => hk q (Gn.own_lt h.rm q hq) (by have := Gn.own_block h.rm q hq; omega), own_keep h.rc fun q hq => hk q (Gn.own_lt h.rc q hq) (by have := Gn.own_block h.rc q hq; omega), h.len, fun i h1 h2 => ⟨(h.own i h1 h2).1, (h.own i h1 h2).2.1, own_keep (h.own i h1 h2).2.2 fun q hq => hk q (Gn.own_lt (h.own i h1 h2).2.2 q hq) (by have := Gn.own_block (h.own i h1 h2).2.2 q hq; omega)⟩⟩
theorem DtA.under (h : DtA W w rest ms cs raws vm vc) (b : Below w.heap.size w w') : DtA W w' rest ms cs raws vm vc :=
  h.sep ⟨b.os, b.tape, b.output, b.size, fun k hk _ => b.block k hk⟩ (h.inn.below b)
theorem DtA.rl (h : DtA W w rest ms cs raws vm vc) : RlAt (fun b => W.heap.size + 3 ≤ b) w ⟨ms, cs⟩ (.agg #[vm, vc]) :=
  rld_done h.rm h.rc ⟨h.len, fun i h1 h2 => ⟨(h.own i h1 h2).1, (h.own i h1 h2).2.1, strs_own (h.own i h1 h2).2.2⟩⟩
/-- What is kept when one row grows. -/
theorem DtA.grown_blocks (h : DtA W w rest ms cs raws vm vc) {T : TypeId} {b s n : Nat} {v : Value} {xs : List Value} (ho : w.ownsRow b T s v n xs) (hb : W.heap.size + 3 ≤ b) (hg : w.grownBy w' v.ownBlock) (hT : T ≠ 69) : Below W.heap.size W w' ∧ w'.heap[W.heap.size]? = some (.cells #[.slice none 0 0, .slice none 0 0] 33 (0, 0)) ∧ At 69 w' (W.heap.size + 1) rest ∧ w'.heap[W.heap.size + 1 + 1]? = some (.cells #[vm, vc] 33 (0, 0)) := by
  have hne : ∀ q, q < W.heap.size + 3 → v.ownBlock ≠ some q := fun q hq e => by have := Gn.own_block ho q e; omega
  have hlt := Gn.heap_lt h.box
  have hk : ∀ q, q < W.heap.size + 3 → w'.heap[q]? = w.heap[q]? := fun q hq => hg.block q (by omega) (fun e => hne q hq e.symm)
  exact ⟨⟨hg.os.trans h.bel.os, hg.tape.trans h.bel.tape, hg.output.trans h.bel.output, Nat.le_trans h.bel.size hg.size, fun q hq => (hk q (by omega)).trans (h.bel.block q hq)⟩, (hk _ (by omega)).trans h.res, h.inn.block (hk _ (by omega)), (hk _ (by omega)).trans h.box⟩
/-- One member more. -/
theorem DtA.snocM (h : DtA W w rest ms cs raws vm vc) {m : Mem} {v' : Value} (ho : w'.ownsRow (W.heap.size + 3) 72 3 v' (ms.length + 1) (cellsOf encM ms ++ encM m)) (hg : w.grownBy w' vm.ownBlock) : DtA W (w'.setCell ⟨W.heap.size + 1 + 1, 0, none⟩ v') rest (ms ++ [m]) cs raws v' vc := by
  obtain ⟨h1, h2, h3, h4⟩ := h.grown_blocks h.rm (Nat.le_refl _) hg (by decide)
  have hc := own_far h.rm h.rc (by decide) hg
  refine ⟨h1.setCell (by show W.heap.size ≤ W.heap.size + 1 + 1; omega) _, (set_box _ (by omega)).trans h2, h3.block (set_box _ (by omega)), Gn.heap_set h4 0 _, ?_, own_keep hc fun q hq => set_box q (by have := Gn.own_block hc q hq; omega), h.len, fun i i1 i2 => ?_⟩
  · rw [List.length_append, cellsOf_app]
    have e : cellsOf encM [m] = encM m := by simp [cellsOf]
    rw [e]
    exact own_keep ho fun q hq => set_box q (by have := Gn.own_block ho q hq; omega)
  · obtain ⟨a1, a2, a3⟩ := h.own i i1 i2
    have hs := own_far h.rm a3 (by decide) hg
    exact ⟨a1, a2, own_keep hs fun q hq => set_box q (by have := Gn.own_block hs q hq; omega)⟩
/-- One class more. -/
theorem DtA.snocC (h : DtA W w rest ms cs raws vm vc) {c : CRaw} {d : Cls} {v' : Value} (ho : w'.ownsRow (W.heap.size + 3) 73 3 v' (cs.length + 1) (cellsOf encC raws ++ encC c)) (hg : w.grownBy w' vc.ownBlock) (hd : c.name = d.name ∧ c.teacher = d.teacher ∧ w.ownsRow (W.heap.size + 3) 9 1 c.studs d.studs.length (d.studs.map Value.string)) : DtA W (w'.setCell ⟨W.heap.size + 1 + 1, 1, none⟩ v') rest ms (cs ++ [d]) (raws ++ [c]) vm v' := by
  obtain ⟨h1, h2, h3, h4⟩ := h.grown_blocks h.rc (Nat.le_refl _) hg (by decide)
  have hc := own_far h.rc h.rm (by decide) hg
  have hl := h.len
  refine ⟨h1.setCell (by show W.heap.size ≤ W.heap.size + 1 + 1; omega) _, (set_box _ (by omega)).trans h2, h3.block (set_box _ (by omega)), Gn.heap_set h4 1 _, own_keep hc fun q hq => set_box q (by have := Gn.own_block hc q hq; omega), ?_, by rw [List.length_append, List.length_append, hl]; rfl, fun i i1 i2 => ?_⟩
  · rw [List.length_append, cellsOf_app]
    have e : cellsOf encC [c] = encC c := by simp [cellsOf]
    rw [e]
    exact own_keep ho fun q hq => set_box q (by have := Gn.own_block ho q hq; omega)
  · by_cases hi : i < cs.length
    · rw [List.getElem_append_left (by omega), List.getElem_append_left hi]
      obtain ⟨a1, a2, a3⟩ := h.own i (by omega) hi
      have hs := own_far h.rc a3 (by decide) hg
      exact ⟨a1, a2, own_keep hs fun q hq => set_box q (by have := Gn.own_block hs q hq; omega)⟩
    · have e1 : (raws ++ [c])[i] = c := by
        rw [List.getElem_append_right (by omega)]; simp
      have e2 : (cs ++ [d])[i] = d := by
        rw [List.getElem_append_right (by omega)]; simp
      rw [e1, e2]
      have hs := own_far h.rc hd.2.2 (by decide) hg
      exact ⟨hd.1, hd.2.1, own_keep hs fun q hq => set_box q (by have := Gn.own_block hs q hq; omega)⟩
end
section
variable {W w : World} {rest : Oct.Rest} {ms : List Mem} {cs : List Cls} {raws : List CRaw} {vm vc : Value}
theorem DtA.exit (h : DtA W w rest ms cs raws vm vc) : ((w.setCell ⟨W.heap.size, 0, none⟩ (.slice none 0 0)).setCell ⟨W.heap.size, 1, none⟩ (.slice none 0 0)).heap[W.heap.size]? = some (.cells #[.slice none 0 0, .slice none 0 0] 33 (0, 0)) ∧ Below W.heap.size W ((w.setCell ⟨W.heap.size, 0, none⟩ (.slice none 0 0)).setCell ⟨W.heap.size, 1, none⟩ (.slice none 0 0)) :=
  ⟨Gn.heap_set (Gn.heap_set h.res 0 _) 1 _, (h.bel.setCell (Nat.le_refl _) _).setCell (Nat.le_refl _) _⟩
theorem DtA.full (h : DtA W w rest ms cs raws vm vc) : ((w.setCell ⟨W.heap.size, 0, none⟩ vm).setCell ⟨W.heap.size, 1, none⟩ vc).heap[W.heap.size]? = some (.cells #[vm, vc] 33 (0, 0)) ∧ OpOut W (.ok ⟨ms, cs⟩) (.returned (.tuple #[.agg #[vm, vc], .int .i64 0])) ((w.setCell ⟨W.heap.size, 0, none⟩ vm).setCell ⟨W.heap.size, 1, none⟩ vc) :=
  ⟨Gn.heap_set (Gn.heap_set h.res 0 _) 1 _, _, rfl, h.rl.keep (by simp [World.setCell]) fun q hq _ => ⟨by omega, fun j => Gn.cell_same ((set_box q (by omega)).trans (set_box q (by omega))) j⟩, (h.bel.setCell (Nat.le_refl _) _).setCell (Nat.le_refl _) _⟩
theorem dt_text (h : DtA W w rest ms cs raws vm vc) : Calls Try.prog 27 #[.pointer (some ⟨W.heap.size + 1, 0, none⟩)] w fun e w' => e = .returned (.string (mkS (rText rest).1)) ∧ DtA W w' (rText rest).2 ms cs raws vm vc ∧ Sep (W.heap.size + 1) w.heap.size w w' :=
  (Oct.ref_text _ _ _ h.inn).mono fun e w' ⟨h1, h2, h3⟩ => ⟨h1, h.sep h3 h2, h3⟩
theorem dt_int (h : DtA W w rest ms cs raws vm vc) : Calls Try.prog 26 #[.pointer (some ⟨W.heap.size + 1, 0, none⟩)] w fun e w' => e = .returned (.int .i64 (rInt rest).1) ∧ DtA W w' (rInt rest).2 ms cs raws vm vc ∧ Sep (W.heap.size + 1) w.heap.size w w' :=
  (Oct.ref_int _ _ _ h.inn).mono fun e w' ⟨h1, h2, h3⟩ => ⟨h1, h.sep h3 h2, h3⟩
theorem dt_texts (h : DtA W w rest ms cs raws vm vc) : Calls Try.prog 28 #[.pointer (some ⟨W.heap.size + 1, 0, none⟩), .int .i64 256] w fun e w' => ∃ (A : Option Addr) (cap : Nat), e = .returned (.slice A ((rTexts 256 rest).1.map mkS).length cap) ∧ DtA W w' (rTexts 256 rest).2 ms cs raws vm vc ∧ Sep (W.heap.size + 1) w.heap.size w w' ∧ w'.ownsRow w.heap.size 9 1 (.slice A ((rTexts 256 rest).1.map mkS).length cap) ((rTexts 256 rest).1.map mkS).length (((rTexts 256 rest).1.map mkS).map Value.string) :=
  (Oct.ref_texts _ _ _ _ h.inn).mono fun e w' ⟨A, cap, h1, h2, h3, h4⟩ => ⟨A, cap, by rw [h1, List.length_map], h.sep h4 h3, h4, by
    rw [List.length_map, List.map_map]
    exact h2⟩
/-- A block is none of these rows'. -/
def Away (q : Nat) (raws : List CRaw) (vm vc : Value) : Prop := (∀ k, vm.ownBlock = some k → k ≠ q) ∧ (∀ k, vc.ownBlock = some k → k ≠ q) ∧ ∀ (i : Nat) (h : i < raws.length) k, raws[i].studs.ownBlock = some k → k ≠ q
theorem DtA.away (h : DtA W w rest ms cs raws vm vc) : Away w.heap.size raws vm vc :=
  ⟨fun k hk => by have := Gn.own_lt h.rm k hk; omega, fun k hk => by have := Gn.own_lt h.rc k hk; omega, fun i hi k hk => by have := Gn.own_lt (h.own i hi (by rw [← h.len]; exact hi)).2.2 k hk; omega⟩
theorem DtA.set (h : DtA W w rest ms cs raws vm vc) {q : Nat} (hq : W.heap.size + 3 ≤ q) (ha : Away q raws vm vc) (i : Nat) (x : Value) : DtA W (w.setCell ⟨q, i, none⟩ x) rest ms cs raws vm vc :=
  ⟨h.bel.setCell (by show W.heap.size ≤ q; omega) _, (set_box _ (by omega)).trans h.res, h.inn.block (set_box _ (by omega)), (set_box _ (by omega)).trans h.box, own_keep h.rm fun k hk => set_box k (ha.1 k hk), own_keep h.rc fun k hk => set_box k (ha.2.1 k hk), h.len, fun j h1 h2 => ⟨(h.own j h1 h2).1, (h.own j h1 h2).2.1, own_keep (h.own j h1 h2).2.2 fun k hk => set_box k (ha.2.2 j h1 k hk)⟩⟩
theorem DtA.lt (h : DtA W w rest ms cs raws vm vc) : W.heap.size + 3 ≤ w.heap.size := by have := Gn.heap_lt h.box; omega
end
/-- What the members' loop leaves. -/
def Ms9 (W : World) (r0 : Oct.Rest) (N : Nat) (w : World) : Prop := ∃ vm ml rz, DtA W w rz ml [] [] vm (.slice none 0 0) ∧ rz = (rMs r0 N).2 ∧ (rErr rz = 0 → ml = (rMs r0 N).1) ∧ ml.length ≤ N ∧ Oct.NZ rz
def Ms8 (W : World) (r0 : Oct.Rest) (N : Nat) (x : Value) (w : World) : Prop := ∃ (k : Nat) (vm : Value), k ≤ N ∧ x = .int .i64 k ∧ DtA W w (rMs r0 k).2 (rMs r0 k).1 [] [] vm (.slice none 0 0)
/-- What the classes' loop leaves. -/
def Cs9 (W : World) (ml : List Mem) (vm : Value) (r0 : Oct.Rest) (N : Nat) (w : World) : Prop := ∃ vc cl raws rz, DtA W w rz ml cl raws vm vc ∧ rz = (rCs r0 N).2 ∧ (rErr rz = 0 → cl = (rCs r0 N).1) ∧ cl.length ≤ N ∧ Oct.NZ rz
def Cs8 (W : World) (ml : List Mem) (vm : Value) (r0 : Oct.Rest) (N : Nat) (x : Value) (w : World) : Prop := ∃ (k : Nat) (raws : List CRaw) (vc : Value), k ≤ N ∧ x = .int .i64 k ∧ DtA W w (rCs r0 k).2 ml (rCs r0 k).1 raws vm vc
theorem dt_err {W w : World} {x : Nat} {ms : List Mem} {cs : List Cls} {raws : List CRaw} {vm vc : Value} (h : DtA W w (.error x) ms cs raws vm vc) : x ≠ 0 ∧ w.cell? ⟨W.heap.size + 1, 1, none⟩ = some (.int .i64 (x : Int)) := by
  obtain ⟨z0, z1, t, t3⟩ := h.inn
  exact ⟨z0, cell_of_row w _ 1 _ _ (0, 0) t3⟩
theorem dt_ok {W w : World} {l : List UInt8} {ms : List Mem} {cs : List Cls} {raws : List CRaw} {vm vc : Value} (h : DtA W w (.ok l) ms cs raws vm vc) : w.cell? ⟨W.heap.size + 1, 1, none⟩ = some (.int .i64 0) ∧ ∃ t : ByteArray, bs t = l ∧ w.cell? ⟨W.heap.size + 1, 0, none⟩ = some (.string t) := by
  obtain ⟨t, t1, t2, t3⟩ := h.inn
  exact ⟨cell_of_row w _ 1 _ _ (0, 0) t3, t, t1, cell_of_row w _ 0 _ _ (0, 0) t3⟩
end Go.Proofs.Ytnmhgjoofgmcgaa.Rl

namespace Go.Proofs.Ytnmhgjoofgmcgaa.Rl
open Go.RowKit
open Fx (StrsAt)
open Oct (rInt rText rTexts rErr rEnd At Sep Gives bs)
set_option maxRecDepth 100000
set_option linter.unusedSimpArgs false
set_option linter.unusedVariables false
theorem rInt_ok {r : Oct.Rest} {n : Int} {l : List UInt8} (h : (rInt r).2 = .ok l) : ∃ l', r = .ok l' := by
  cases r with
  | error e => cases h
  | ok l => exact ⟨l, rfl⟩
theorem rInt_zero {r : Oct.Rest} {x : Nat} (h : (rInt r).2 = .error x) : (rInt r).1 = 0 := by
  cases r with
  | error e => rfl
  | ok l =>
    simp only [rInt] at h ⊢
    by_cases hz : (Oct.gb l).2.2 = 0
    · rw [if_pos hz] at h; cases h
    · rw [if_neg hz]
theorem rCs_ok {r : Oct.Rest} {k : Nat} {l : List UInt8} (h : (rCs r k).2 = .ok l) : ∃ l', r = .ok l' := by
  cases r with
  | error e =>
    have := rCs_stuck (.error e) 0 k e rfl
    rw [Nat.zero_add, h] at this
    cases this
  | ok l => exact ⟨l, rfl⟩
set_option maxHeartbeats 32000000 in
theorem dget_any (s : ByteArray) (hs : s.size ≤ 9223372036854775807) (W : World) :
    Calls Try.prog 9 #[.string s] W (OpOut W (getR (bs s))) := by
  obtain ⟨i0, hi0, hz0, hz1, hz2⟩ := info_parts DM_info
  obtain ⟨i1, hi1, hy0, hy1, hy2⟩ := info_parts DC_info
  obtain ⟨V2, hV2⟩ : ∃ V2, V2 = ((W.alloc (.cells #[.slice none 0 0, .slice none 0 0] 33)).alloc (.cells #[.string s, .int .i64 0] 69)).alloc (.cells #[.slice none 0 0, .slice none 0 0] 33) := ⟨_, rfl⟩
  have hb : Below W.heap.size W V2 := by rw [hV2]; exact (((Below.refl _ W).alloc (Nat.le_refl _) _).alloc (by simp) _).alloc (by simp; omega) _
  have hx0 : V2.heap[W.heap.size]? = some (.cells #[.slice none 0 0, .slice none 0 0] 33 (0, 0)) := by rw [hV2]; exact (heap_alloc_old _ _ (by simp; omega)).trans ((heap_alloc_old _ _ (by simp)).trans (heap_alloc_new W _))
  have hx1 : V2.heap[W.heap.size + 1]? = some (.cells #[.string s, .int .i64 0] 69 (0, 0)) := by
    rw [hV2]; exact (heap_alloc_old _ _ (by simp)).trans (by have := heap_alloc_new (W.alloc (.cells #[.slice none 0 0, .slice none 0 0] 33)) (.cells #[.string s, .int .i64 0] 69); simpa using this)
  have hx2 : V2.heap[W.heap.size + 1 + 1]? = some (.cells #[.slice none 0 0, .slice none 0 0] 33 (0, 0)) := by
    rw [hV2]; have := heap_alloc_new ((W.alloc (.cells #[.slice none 0 0, .slice none 0 0] 33)).alloc (.cells #[.string s, .int .i64 0] 69)) (.cells #[.slice none 0 0, .slice none 0 0] 33); simpa using this
  have HGA := Lib.hid (show DtA W V2 (.ok (bs s)) [] [] [] (.slice none 0 0) (.slice none 0 0) from ⟨hb, hx0, ⟨s, rfl, hs, hx1⟩, hx2, World.ownsRow_nil _ _ _ _, World.ownsRow_nil _ _ _ _, rfl, fun i h => absurd h (by simp)⟩)
  have HI := Lib.hid (dt_int HGA.out)
  obtain ⟨q0, hq0⟩ : ∃ q, q = rInt (.ok (bs s)) := ⟨_, rfl⟩
  have hRe : getR (bs s) = getM9 q0 := by rw [hq0]; rfl
  have hnz0 := Oct.rInt_nz (r := .ok (bs s)) (fun h => by cases h)
  rw [← hq0] at HI hnz0
  obtain ⟨x0, r0⟩ := q0
  dsimp only at HI hnz0
  have HQ0 := Lib.hid (show (rInt (.ok (bs s))).2 = r0 by rw [← hq0])
  have HX0 := Lib.hid (show (rInt (.ok (bs s))).1 = x0 by rw [← hq0])
  have HNZ0 := Lib.hid hnz0
  have HV2 := Lib.hid hV2
  have HRE := Lib.hid hRe
  clear hb hx0 hx1 hx2 hV2 hRe hq0 hs hnz0
  go_enter Try.func9, Try.ntmps9
  go_upto_region 3 with fail
  rw [← HV2.out]
  go_wp2_with fail
  refine HI.out.mono ?_
  rintro e w3 ⟨rfl, hga, _⟩
  have HGA := Lib.hid hga
  clear hga HI
  by_cases hx : x0 < 0 ∨ 256 < x0
  · have hr0 : ∃ l, r0 = .ok l := by
      cases r0 with
      | error x => exfalso; have := rInt_zero HQ0.out; have h2 := HX0.out; omega
      | ok l => exact ⟨l, rfl⟩
    obtain ⟨l, rfl⟩ := hr0
    have c1 := (dt_ok HGA.out).1
    by_cases hx1 : x0 < 0
    · have HR := Lib.hid (show getR (bs s) = .error 2 by rw [HRE.out]; unfold getM9; dsimp only; rw [if_pos hx])
      have HRS := Lib.hid HGA.out.exit.1
      have HBE := Lib.hid HGA.out.exit.2
      have r0' := cell_of_row _ _ 0 _ _ (0, 0) HGA.out.res
      have r1' := cell_of_row _ _ 1 _ _ (0, 0) HGA.out.res
      have g0' := Gn.frozen_row HGA.out.res 0
      have g1' := Gn.frozen_row HGA.out.res 1
      go_wp2_with fail
      refine bodyPost_ret (results_ct (P := Try.prog) rfl _ _ W.heap.size 33 _ (0, 0) _ _ rfl rfl HRS.out Try.underlying33 rfl (by kernel_rfl)) rfl ?_
      rw [HR.out]
      exact ⟨_, rfl, rl_zero _ _, HBE.out⟩
    · have hx2 : 256 < x0 := by omega
      have HR := Lib.hid (show getR (bs s) = .error 2 by rw [HRE.out]; unfold getM9; dsimp only; rw [if_pos hx])
      have HRS := Lib.hid HGA.out.exit.1
      have HBE := Lib.hid HGA.out.exit.2
      have r0' := cell_of_row _ _ 0 _ _ (0, 0) HGA.out.res
      have r1' := cell_of_row _ _ 1 _ _ (0, 0) HGA.out.res
      have g0' := Gn.frozen_row HGA.out.res 0
      have g1' := Gn.frozen_row HGA.out.res 1
      go_wp2_with fail
      refine bodyPost_ret (results_ct (P := Try.prog) rfl _ _ W.heap.size 33 _ (0, 0) _ _ rfl rfl HRS.out Try.underlying33 rfl (by kernel_rfl)) rfl ?_
      rw [HR.out]
      exact ⟨_, rfl, rl_zero _ _, HBE.out⟩
  · have hx1 : ¬ x0 < 0 := by omega
    have hx2 : ¬ 256 < x0 := by omega
    obtain ⟨N, rfl⟩ := Int.eq_ofNat_of_zero_le (show 0 ≤ x0 by omega)
    have hN : N ≤ 256 := by omega
    have HRE1 := Lib.hid (show getR (bs s) = getC9 (rMs r0 N) (rInt (rMs r0 N).2) by rw [HRE.out]; unfold getM9; dsimp only; rw [if_neg hx, Int.toNat_natCast])
    have hx1' : ¬ (N : Int) < 0 := by omega
    have hx2' : ¬ (256 : Int) < (N : Int) := by omega
    clear hx hx1 hx2 HRE HX0 HQ0
    go_upto_region 4 with fail
    go_cut [28] from 16 to 27 (fun b wx => b = .bool false ∧ w3 = wx)
    case first =>
      cases r0 with
      | error x =>
        obtain ⟨z0, c1⟩ := dt_err HGA.out
        have hx : ((x : Int) == 0) = false := by rw [beq_eq_false_iff_ne]; omega
        clear z0
        go_wp2_with fail
        go_meet
        case rel => exact ⟨rfl, rfl⟩
      | ok l =>
        have c1 := (dt_ok HGA.out).1
        go_wp2_with fail
        go_meet
        case rel => exact ⟨by rw [decide_eq_false (show ¬ (N : Int) < 0 by omega), decide_eq_false (show ¬ (256 : Int) < (N : Int) by omega)]; rfl, rfl⟩
    case rest =>
      obtain ⟨rfl, rfl⟩ := hcut
      go_upto_block 0 with fail
      go_cut [7] (fun _ wx => Ms9 W r0 N wx)
      case first =>
        go_wp2_with fail
        go_loopw [7] (fun x wr => Ms8 W r0 N x wr) (fun x _ => N - (intOf x).toNat)
        case atStart => exact ⟨0, _, Nat.zero_le _, rfl, HGA.out⟩
        case round =>
          obtain ⟨k, vm, hk, rfl, hga⟩ := hrel
          have HGA := Lib.hid hga
          clear hga
          obtain ⟨A1, cA, rfl⟩ := Gn.slice_of HGA.out.rm
          obtain ⟨ml, hml⟩ : ∃ ml, ml = (rMs r0 k).1 := ⟨_, rfl⟩
          obtain ⟨ra, hra⟩ : ∃ ra, ra = (rMs r0 k).2 := ⟨_, rfl⟩
          have hmk : ml.length = k := by rw [hml]; exact rMs_len r0 k
          rw [← hml, ← hra, hmk] at HGA
          have hnz := rMs_nz HNZ0.out k
          rw [← hra] at hnz
          cases ra with
          | error x =>
            obtain ⟨z0, c1⟩ := dt_err HGA.out
            have hx : ((x : Int) == 0) = false := by rw [beq_eq_false_iff_ne]; omega
            have HST := Lib.hid (show (.error x : Oct.Rest) = (rMs r0 N).2 by have := rMs_stuck r0 k (N - k) x hra.symm; rw [show k + (N - k) = N by omega] at this; exact this.symm)
            have HNZ := Lib.hid hnz
            have HZ0 := Lib.hid z0
            have HML := Lib.hid (show ml.length ≤ N by omega)
            clear hml hra hmk z0 hnz
            by_cases hlt : (k : Int) < (N : Int)
            all_goals
              go_wp2_with fail
              go_meet
              case rel => exact ⟨_, ml, .error x, HGA.out, HST.out, (fun h => absurd h HZ0.out), HML.out, HNZ.out⟩
          | ok l =>
            have c1 := (dt_ok HGA.out).1
            by_cases hlt : k < N
            · have hlt2 : (k : Int) < (N : Int) := by omega
              obtain ⟨s1, hs1⟩ : ∃ s1, s1 = mkS (rText (.ok l)).1 := ⟨_, rfl⟩
              obtain ⟨rb, hrb⟩ : ∃ rb, rb = (rText (.ok l)).2 := ⟨_, rfl⟩
              obtain ⟨z2, hz2⟩ : ∃ z, z = (rInt rb).1 := ⟨_, rfl⟩
              obtain ⟨rc, hrc⟩ : ∃ rc, rc = (rInt rb).2 := ⟨_, rfl⟩
              obtain ⟨z3, hz3⟩ : ∃ z, z = (rInt rc).1 := ⟨_, rfl⟩
              obtain ⟨rd, hrd⟩ : ∃ rd, rd = (rInt rc).2 := ⟨_, rfl⟩
              have HNX := Lib.hid (show rMs r0 (k + 1) = (ml ++ [⟨s1, z2, z3⟩], rd) by rw [rMs, stepMs, ← hml, ← hra, ← hrb, ← hrc, ← hrd, ← hs1, ← hz2, ← hz3])
              have HML := Lib.hid hmk
              have HC1 := Lib.hid (dt_text HGA.out)
              have HC2 := Lib.hid (fun (w : World) (h : DtA W w rb ml [] [] (.slice A1 k cA) (.slice none 0 0)) => dt_int h)
              have HC3 := Lib.hid (fun (w : World) (h : DtA W w rc ml [] [] (.slice A1 k cA) (.slice none 0 0)) => dt_int h)
              rw [← hs1, ← hrb] at HC1
              rw [← hz2, ← hrc] at HC2
              rw [← hz3, ← hrd] at HC3
              have hw1 : IntKind.i64.wrap ((k : Int) + 1) = ((k + 1 : Nat) : Int) := IntWalk.i64_in _ (by omega)
              clear hml hra hmk hs1 hrb hz2 hrc hz3 hrd hnz
              go_wp2_with fail
              refine HC1.out.mono ?_
              rintro e w4 ⟨rfl, h4, _⟩
              obtain ⟨M4, hM4⟩ : ∃ M, M = w4.alloc (.cells #[.string s1, .int .i64 0, .int .i64 0] 72) := ⟨_, rfl⟩
              obtain ⟨q, hq⟩ : ∃ q, q = w4.heap.size := ⟨_, rfl⟩
              have hbx : M4.heap[q]? = some (.cells #[.string s1, .int .i64 0, .int .i64 0] 72 (0, 0)) := by rw [hM4, hq]; exact heap_alloc_new _ _
              have HG4 := Lib.hid (show DtA W M4 rb ml [] [] (.slice A1 k cA) (.slice none 0 0) by rw [hM4]; exact h4.under ((Below.refl _ _).alloc (Nat.le_refl _) _))
              have HQ := Lib.hid (show W.heap.size + 3 ≤ q by rw [hq]; exact h4.lt)
              have HAW := Lib.hid (show Away q [] (.slice A1 k cA) (.slice none 0 0) by rw [hq]; exact h4.away)
              have HM4 := Lib.hid hM4
              have HQE := Lib.hid hq
              clear h4 c1 hM4 hq
              go_upto_region 10 with fail
              rw [← HM4.out, ← HQE.out]
              go_wp2_with fail
              refine (HC2.out _ HG4.out).mono ?_
              rintro e w5 ⟨rfl, h5, hs5⟩
              have hbx5 := (hs5.block q (Gn.heap_lt hbx) (by have := HQ.out; omega)).trans hbx
              have f51 := Gn.frozen_row hbx5 1
              have e51 := cell_of_row _ _ 1 _ _ (0, 0) hbx5
              obtain ⟨M5, hM5⟩ : ∃ M, M = w5.setCell ⟨q, 1, none⟩ (.int .i64 z2) := ⟨_, rfl⟩
              have hbx6 : M5.heap[q]? = some (.cells #[.string s1, .int .i64 z2, .int .i64 0] 72 (0, 0)) := by rw [hM5]; exact Gn.heap_set hbx5 1 _
              have HG5 := Lib.hid (show DtA W M5 rc ml [] [] (.slice A1 k cA) (.slice none 0 0) by rw [hM5]; exact h5.set HQ.out HAW.out 1 _)
              have HM5 := Lib.hid hM5
              have HBX6 := Lib.hid hbx6
              clear h5 hs5 hbx hbx5 hM5 hbx6
              go_upto_region 11 with fail
              rw [← HM5.out]
              clear f51 e51
              go_wp2_with fail
              refine (HC3.out _ HG5.out).mono ?_
              rintro e w6 ⟨rfl, h6, hs6⟩
              have hbx7 := (hs6.block q (Gn.heap_lt HBX6.out) (by have := HQ.out; omega)).trans HBX6.out
              have f62 := Gn.frozen_row hbx7 2
              have e62 := cell_of_row _ _ 2 _ _ (0, 0) hbx7
              obtain ⟨M6, hM6⟩ : ∃ M, M = w6.setCell ⟨q, 2, none⟩ (.int .i64 z3) := ⟨_, rfl⟩
              have hbx8 : M6.heap[q]? = some (.cells #[.string s1, .int .i64 z2, .int .i64 z3] 72 (0, 0)) := by rw [hM6]; exact Gn.heap_set hbx7 2 _
              have HG6 := Lib.hid (show DtA W M6 rd ml [] [] (.slice A1 k cA) (.slice none 0 0) by rw [hM6]; exact h6.set HQ.out HAW.out 2 _)
              have HM6 := Lib.hid hM6
              have HBX8 := Lib.hid hbx8
              clear h6 hs6 hbx7 hM6 hbx8
              go_upto_region 12 with fail
              rw [← HM6.out]
              clear f62 e62
              have m0 := cell_of_row _ _ 0 _ _ (0, 0) HBX8.out
              have m1 := cell_of_row _ _ 1 _ _ (0, 0) HBX8.out
              have m2 := cell_of_row _ _ 2 _ _ (0, 0) HBX8.out
              have bx := cell_of_row _ _ 0 _ _ (0, 0) HG6.out.box
              have HG7 := Lib.hid (HG6.out.under ((Below.refl _ _).alloc (Nat.le_refl _) (.cells #[.string s1, .int .i64 z2, .int .i64 z3] 72)))
              have HLT := Lib.hid HG6.out.lt
              go_wp2_with ((at_builtin; refine wpList_append_own _ rfl _ _ 30 rfl (W.heap.size + 3) 72 i0 _ 3 32 Try.underlying30 hi0 hz0 hz1 hz2 rfl (by decide) (.slice A1 k cA) k (cellsOf encM ml) rfl (by have := HG7.out.rm; rwa [HML.out] at this) ⟨M6.heap.size, 0, none⟩ 1 1 (encM ⟨s1, z2, z3⟩) rfl rfl (Gn.row_new M6 (encM ⟨s1, z2, z3⟩) 72 M6.heap.size rfl) (encM_one _) (by unfold maxLen; omega) (by omega) (by simp; have := HLT.out; omega) ?_))
              intro v9 w9 ho9 hg9 _
              have HG9 := Lib.hid (HG7.out.snocM (m := ⟨s1, z2, z3⟩) (by rw [HML.out]; exact ho9) hg9)
              have hb9 := (HG7.out.grown_blocks HG7.out.rm (Nat.le_refl _) hg9 (by decide)).2.2.2
              obtain ⟨A9, c9, rfl⟩ := Gn.slice_of ho9
              have b0 := cell_of_row _ _ 0 _ _ (0, 0) hb9
              have f0 := Gn.frozen_row hb9 0
              clear ho9 hg9 m0 m1 m2 bx hb9
              go_wp2_with fail
              go_roundw
              case rel => exact ⟨k + 1, _, by omega, by go_num, by rw [HNX.out]; exact HG9.out⟩
              case measure => simp [intOf]; omega
            · have hlt2 : ¬ (k : Int) < (N : Int) := by omega
              have hke : k = N := by omega
              have HR1 := Lib.hid (show (.ok l : Oct.Rest) = (rMs r0 N).2 by rw [← hke]; exact hra)
              have HR2 := Lib.hid (show ml = (rMs r0 N).1 by rw [← hke]; exact hml)
              have HML := Lib.hid (show ml.length ≤ N by omega)
              have HNZ := Lib.hid hnz
              clear hml hra hmk hnz hke
              go_wp2_with fail
              go_meet
              case rel => exact ⟨_, ml, .ok l, HGA.out, HR1.out, (fun _ => HR2.out), HML.out, HNZ.out⟩
      case rest =>
        obtain ⟨vm, ml, rz, hga, hrz, hml, hmn, hnz⟩ := hcut
        obtain ⟨w6, rfl⟩ : ∃ w, w = wc := ⟨_, rfl⟩
        obtain ⟨A1, cA, rfl⟩ := Gn.slice_of hga.rm
        obtain ⟨n1, hn1⟩ : ∃ n, n = ml.length := ⟨_, rfl⟩
        rw [← hn1] at hga
        have HN1 := Lib.hid hn1
        clear hn1
        have HGA := Lib.hid hga
        have HI := Lib.hid (dt_int hga)
        obtain ⟨q1, hq1⟩ : ∃ q, q = rInt rz := ⟨_, rfl⟩
        have HRE2 := Lib.hid (show getR (bs s) = getC9 (rMs r0 N) q1 by rw [HRE1.out, hq1, hrz])
        have hnz1 := Oct.rInt_nz hnz
        rw [← hq1] at HI hnz1
        obtain ⟨x1, r1⟩ := q1
        dsimp only at HI hnz1
        have HQ1 := Lib.hid (show (rInt rz).2 = r1 by rw [← hq1])
        have HX1 := Lib.hid (show (rInt rz).1 = x1 by rw [← hq1])
        have HMLE := Lib.hid hml
        have HMN := Lib.hid (show ml.length ≤ 256 by omega)
        have HNZ1 := Lib.hid hnz1
        clear hga hrz hml hmn hnz hq1 hnz1
        go_wp2_with fail
        refine HI.out.mono ?_
        rintro e w7 ⟨rfl, hga, _⟩
        have HGA := Lib.hid hga
        clear hga HI
        by_cases hx : x1 < 0 ∨ 32 < x1
        · have hr1 : ∃ l, r1 = .ok l := by
            cases r1 with
            | error x => exfalso; have := rInt_zero HQ1.out; have h2 := HX1.out; omega
            | ok l => exact ⟨l, rfl⟩
          obtain ⟨l, rfl⟩ := hr1
          have c1 := (dt_ok HGA.out).1
          by_cases hx1 : x1 < 0
          · have HR := Lib.hid (show getR (bs s) = .error 2 by rw [HRE2.out]; unfold getC9; dsimp only; rw [if_pos hx])
            have HRS := Lib.hid HGA.out.exit.1
            have HBE := Lib.hid HGA.out.exit.2
            have r0' := cell_of_row _ _ 0 _ _ (0, 0) HGA.out.res
            have r1' := cell_of_row _ _ 1 _ _ (0, 0) HGA.out.res
            have g0' := Gn.frozen_row HGA.out.res 0
            have g1' := Gn.frozen_row HGA.out.res 1
            go_wp2_with fail
            refine bodyPost_ret (results_ct (P := Try.prog) rfl _ _ W.heap.size 33 _ (0, 0) _ _ rfl rfl HRS.out Try.underlying33 rfl (by kernel_rfl)) rfl ?_
            rw [HR.out]
            exact ⟨_, rfl, rl_zero _ _, HBE.out⟩
          · have hx2 : 32 < x1 := by omega
            have HR := Lib.hid (show getR (bs s) = .error 2 by rw [HRE2.out]; unfold getC9; dsimp only; rw [if_pos hx])
            have HRS := Lib.hid HGA.out.exit.1
            have HBE := Lib.hid HGA.out.exit.2
            have r0' := cell_of_row _ _ 0 _ _ (0, 0) HGA.out.res
            have r1' := cell_of_row _ _ 1 _ _ (0, 0) HGA.out.res
            have g0' := Gn.frozen_row HGA.out.res 0
            have g1' := Gn.frozen_row HGA.out.res 1
            go_wp2_with fail
            refine bodyPost_ret (results_ct (P := Try.prog) rfl _ _ W.heap.size 33 _ (0, 0) _ _ rfl rfl HRS.out Try.underlying33 rfl (by kernel_rfl)) rfl ?_
            rw [HR.out]
            exact ⟨_, rfl, rl_zero _ _, HBE.out⟩
        · have hx1 : ¬ x1 < 0 := by omega
          have hx2 : ¬ 32 < x1 := by omega
          obtain ⟨M, rfl⟩ := Int.eq_ofNat_of_zero_le (show 0 ≤ x1 by omega)
          have hM : M ≤ 32 := by omega
          have HRE3 := Lib.hid (show getR (bs s) = getD9 (rMs r0 N) (rCs r1 M) by rw [HRE2.out]; unfold getC9; dsimp only; rw [if_neg hx, Int.toNat_natCast])
          have hx1' : ¬ (M : Int) < 0 := by omega
          have hx2' : ¬ (32 : Int) < (M : Int) := by omega
          clear hx hx1 hx2 HRE2 HX1
          go_upto_region 14 with fail
          go_cut [71] from 59 to 70 (fun b wx => b = .bool false ∧ w7 = wx)
          case first =>
            cases r1 with
            | error x =>
              obtain ⟨z0, c1⟩ := dt_err HGA.out
              have hx : ((x : Int) == 0) = false := by rw [beq_eq_false_iff_ne]; omega
              clear z0
              go_wp2_with fail
              go_meet
              case rel => exact ⟨rfl, rfl⟩
            | ok l =>
              have c1 := (dt_ok HGA.out).1
              go_wp2_with fail
              go_meet
              case rel => exact ⟨by rw [decide_eq_false (show ¬ (M : Int) < 0 by omega), decide_eq_false (show ¬ (32 : Int) < (M : Int) by omega)]; rfl, rfl⟩
          case rest =>
            obtain ⟨rfl, rfl⟩ := hcut
            go_upto_block 2 with fail
            go_cut [9] (fun _ wx => Cs9 W ml (.slice A1 n1 cA) r1 M wx)
            case first =>
              go_wp2_with fail
              go_loopw [9] (fun x wr => Cs8 W ml (.slice A1 n1 cA) r1 M x wr) (fun x _ => M - (intOf x).toNat)
              case atStart => exact ⟨0, [], _, Nat.zero_le _, rfl, HGA.out⟩
              case round =>
                obtain ⟨k, raws, vc, hk, rfl, hga⟩ := hrel
                have HGA := Lib.hid hga
                clear hga
                obtain ⟨A2, c2, rfl⟩ := Gn.slice_of HGA.out.rc
                obtain ⟨cl, hcl⟩ : ∃ ml, ml = (rCs r1 k).1 := ⟨_, rfl⟩
                obtain ⟨ra, hra⟩ : ∃ ra, ra = (rCs r1 k).2 := ⟨_, rfl⟩
                have hmk : cl.length = k := by rw [hcl]; exact rCs_len r1 k
                rw [← hcl, ← hra, hmk] at HGA
                have hnz := rCs_nz HNZ1.out k
                rw [← hra] at hnz
                cases ra with
                | error x =>
                  obtain ⟨z0, c1⟩ := dt_err HGA.out
                  have hx : ((x : Int) == 0) = false := by rw [beq_eq_false_iff_ne]; omega
                  have HST := Lib.hid (show (.error x : Oct.Rest) = (rCs r1 M).2 by have := rCs_stuck r1 k (M - k) x hra.symm; rw [show k + (M - k) = M by omega] at this; exact this.symm)
                  have HNZ := Lib.hid hnz
                  have HZ0 := Lib.hid z0
                  have HML := Lib.hid (show cl.length ≤ M by omega)
                  clear hcl hra hmk z0 hnz
                  by_cases hlt : (k : Int) < (M : Int)
                  all_goals
                    go_wp2_with fail
                    go_meet
                    case rel => exact ⟨_, cl, raws, .error x, HGA.out, HST.out, (fun h => absurd h HZ0.out), HML.out, HNZ.out⟩
                | ok l =>
                  have c1 := (dt_ok HGA.out).1
                  by_cases hlt : k < M
                  · have hlt2 : (k : Int) < (M : Int) := by omega
                    obtain ⟨s1, hs1⟩ : ∃ s1, s1 = mkS (rText (.ok l)).1 := ⟨_, rfl⟩
                    obtain ⟨rb, hrb⟩ : ∃ rb, rb = (rText (.ok l)).2 := ⟨_, rfl⟩
                    obtain ⟨s2, hs2⟩ : ∃ z, z = mkS (rText rb).1 := ⟨_, rfl⟩
                    obtain ⟨rc, hrc⟩ : ∃ rc, rc = (rText rb).2 := ⟨_, rfl⟩
                    obtain ⟨ss, hss⟩ : ∃ z, z = (rTexts 256 rc).1.map mkS := ⟨_, rfl⟩
                    obtain ⟨rd, hrd⟩ : ∃ rd, rd = (rTexts 256 rc).2 := ⟨_, rfl⟩
                    have HNX := Lib.hid (show rCs r1 (k + 1) = (cl ++ [⟨s1, s2, ss⟩], rd) by rw [rCs, stepCs, ← hcl, ← hra, ← hrb, ← hrc, ← hrd, ← hs1, ← hs2, ← hss])
                    have HML := Lib.hid hmk
                    have HC1 := Lib.hid (dt_text HGA.out)
                    have HC2 := Lib.hid (fun (w : World) (h : DtA W w rb ml cl raws (.slice A1 n1 cA) (.slice A2 k c2)) => dt_text h)
                    have HC3 := Lib.hid (fun (w : World) (h : DtA W w rc ml cl raws (.slice A1 n1 cA) (.slice A2 k c2)) => dt_texts h)
                    rw [← hs1, ← hrb] at HC1
                    rw [← hs2, ← hrc] at HC2
                    rw [← hss, ← hrd] at HC3
                    have hw1 : IntKind.i64.wrap ((k : Int) + 1) = ((k + 1 : Nat) : Int) := IntWalk.i64_in _ (by omega)
                    clear hcl hra hmk hs1 hrb hs2 hrc hss hrd hnz
                    go_wp2_with fail
                    refine HC1.out.mono ?_
                    rintro e w4 ⟨rfl, h4, _⟩
                    obtain ⟨M4, hM4⟩ : ∃ M, M = w4.alloc (.cells #[.string s1, .string ⟨#[]⟩, .slice none 0 0] 73) := ⟨_, rfl⟩
                    obtain ⟨q, hq⟩ : ∃ q, q = w4.heap.size := ⟨_, rfl⟩
                    have hbx : M4.heap[q]? = some (.cells #[.string s1, .string ⟨#[]⟩, .slice none 0 0] 73 (0, 0)) := by rw [hM4, hq]; exact heap_alloc_new _ _
                    have HG4 := Lib.hid (show DtA W M4 rb ml cl raws (.slice A1 n1 cA) (.slice A2 k c2) by rw [hM4]; exact h4.under ((Below.refl _ _).alloc (Nat.le_refl _) _))
                    have HQ := Lib.hid (show W.heap.size + 3 ≤ q by rw [hq]; exact h4.lt)
                    have HAW := Lib.hid (show Away q raws (.slice A1 n1 cA) (.slice A2 k c2) by rw [hq]; exact h4.away)
                    have HM4 := Lib.hid hM4
                    have HQE := Lib.hid hq
                    clear h4 c1 hM4 hq
                    go_upto_region 20 with fail
                    rw [← HM4.out, ← HQE.out]
                    go_wp2_with fail
                    refine (HC2.out _ HG4.out).mono ?_
                    rintro e w5 ⟨rfl, h5, hs5⟩
                    have hbx5 := (hs5.block q (Gn.heap_lt hbx) (by have := HQ.out; omega)).trans hbx
                    have f51 := Gn.frozen_row hbx5 1
                    have e51 := cell_of_row _ _ 1 _ _ (0, 0) hbx5
                    obtain ⟨M5, hM5⟩ : ∃ M, M = w5.setCell ⟨q, 1, none⟩ (.string s2) := ⟨_, rfl⟩
                    have hbx6 : M5.heap[q]? = some (.cells #[.string s1, .string s2, .slice none 0 0] 73 (0, 0)) := by rw [hM5]; exact Gn.heap_set hbx5 1 _
                    have HG5 := Lib.hid (show DtA W M5 rc ml cl raws (.slice A1 n1 cA) (.slice A2 k c2) by rw [hM5]; exact h5.set HQ.out HAW.out 1 _)
                    have HM5 := Lib.hid hM5
                    have HBX6 := Lib.hid hbx6
                    clear h5 hs5 hbx hbx5 hM5 hbx6
                    go_upto_region 21 with fail
                    rw [← HM5.out]
                    clear f51 e51
                    go_wp2_with fail
                    refine (HC3.out _ HG5.out).mono ?_
                    rintro e w6 ⟨A6, c6, rfl, h6, hs6, o6⟩
                    have hlq := Gn.heap_lt HBX6.out
                    have hbx7 := (hs6.block q hlq (by have := HQ.out; omega)).trans HBX6.out
                    have f62 := Gn.frozen_row hbx7 2
                    have e62 := cell_of_row _ _ 2 _ _ (0, 0) hbx7
                    obtain ⟨M6, hM6⟩ : ∃ M, M = w6.setCell ⟨q, 2, none⟩ (.slice A6 ss.length c6) := ⟨_, rfl⟩
                    have hbx8 : M6.heap[q]? = some (.cells #[.string s1, .string s2, .slice A6 ss.length c6] 73 (0, 0)) := by rw [hM6]; exact Gn.heap_set hbx7 2 _
                    have HG6 := Lib.hid (show DtA W M6 rd ml cl raws (.slice A1 n1 cA) (.slice A2 k c2) by rw [hM6]; exact h6.set HQ.out HAW.out 2 _)
                    have HO6 := Lib.hid (show M6.ownsRow (W.heap.size + 3) 9 1 (.slice A6 ss.length c6) ss.length (ss.map Value.string) by
                      rw [hM6]
                      refine own_keep (own_low o6 (by have := HQ.out; omega)) fun z hz => set_box z (by have := Gn.own_block o6 z hz; omega))
                    have HM6 := Lib.hid hM6
                    have HBX8 := Lib.hid hbx8
                    clear h6 hs6 hbx7 hM6 hbx8 hlq o6
                    go_upto_region 22 with fail
                    rw [← HM6.out]
                    clear f62 e62
                    have m0 := cell_of_row _ _ 0 _ _ (0, 0) HBX8.out
                    have m1 := cell_of_row _ _ 1 _ _ (0, 0) HBX8.out
                    have m2 := cell_of_row _ _ 2 _ _ (0, 0) HBX8.out
                    have bx := cell_of_row _ _ 1 _ _ (0, 0) HG6.out.box
                    have HG7 := Lib.hid (HG6.out.under ((Below.refl _ _).alloc (Nat.le_refl _) (.cells #[.string s1, .string s2, .slice A6 ss.length c6] 73)))
                    have HO7 := Lib.hid (HO6.out.alloc (.cells #[.string s1, .string s2, .slice A6 ss.length c6] 73))
                    have HLT := Lib.hid HG6.out.lt
                    go_wp2_with ((at_builtin; refine wpList_append_own _ rfl _ _ 31 rfl (W.heap.size + 3) 73 i1 _ 3 56 Try.underlying31 hi1 hy0 hy1 hy2 rfl (by decide) (.slice A2 k c2) k (cellsOf encC raws) rfl (by have := HG7.out.rc; rwa [HML.out] at this) ⟨M6.heap.size, 0, none⟩ 1 1 (encC ⟨s1, s2, .slice A6 ss.length c6⟩) rfl rfl (Gn.row_new M6 (encC ⟨s1, s2, .slice A6 ss.length c6⟩) 73 M6.heap.size rfl) (by intro u hu; simp [encC] at hu; rcases hu with rfl | rfl | rfl <;> rfl) (by unfold maxLen; omega) (by omega) (by simp; have := HLT.out; omega) ?_))
                    intro v9 w9 ho9 hg9 _
                    have HG9 := Lib.hid (HG7.out.snocC (c := ⟨s1, s2, .slice A6 ss.length c6⟩) (d := ⟨s1, s2, ss⟩) (by rw [HML.out]; exact ho9) hg9 ⟨rfl, rfl, HO7.out⟩)
                    have hb9 := (HG7.out.grown_blocks HG7.out.rc (Nat.le_refl _) hg9 (by decide)).2.2.2
                    obtain ⟨A9, c9, rfl⟩ := Gn.slice_of ho9
                    have b0 := cell_of_row _ _ 1 _ _ (0, 0) hb9
                    have f0 := Gn.frozen_row hb9 1
                    clear ho9 hg9 m0 m1 m2 bx hb9
                    go_wp2_with fail
                    go_roundw
                    case rel => exact ⟨k + 1, _, _, by omega, by go_num, by rw [HNX.out]; exact HG9.out⟩
                    case measure => simp [intOf]; omega
                  · have hlt2 : ¬ (k : Int) < (M : Int) := by omega
                    have hke : k = M := by omega
                    have HR1 := Lib.hid (show (.ok l : Oct.Rest) = (rCs r1 M).2 by rw [← hke]; exact hra)
                    have HR2 := Lib.hid (show cl = (rCs r1 M).1 by rw [← hke]; exact hcl)
                    have HML := Lib.hid (show cl.length ≤ M by omega)
                    have HNZ := Lib.hid hnz
                    clear hcl hra hmk hnz hke
                    go_wp2_with fail
                    go_meet
                    case rel => exact ⟨_, cl, raws, .ok l, HGA.out, HR1.out, (fun _ => HR2.out), HML.out, HNZ.out⟩
            case rest =>
              obtain ⟨vc, cl, raws, rz2, hga, hrz2, hcl, hcn, hnz2⟩ := hcut
              obtain ⟨w8, rfl⟩ : ∃ w, w = wc := ⟨_, rfl⟩
              have HGA := Lib.hid hga
              obtain ⟨A2, c2, rfl⟩ := Gn.slice_of HGA.out.rc
              cases rz2 with
              | error x =>
                obtain ⟨z0, c1⟩ := dt_err HGA.out
                have hx : ((x : Int) != 0) = true := by rw [bne_iff_ne]; omega
                have HR := Lib.hid (show getR (bs s) = .error x by rw [HRE3.out]; unfold getD9; rw [← hrz2]; exact if_pos z0)
                clear hga hrz2 hcl hcn hnz2 z0
                have HRS := Lib.hid HGA.out.exit.1
                have HBE := Lib.hid HGA.out.exit.2
                have r0' := cell_of_row _ _ 0 _ _ (0, 0) HGA.out.res
                have r1' := cell_of_row _ _ 1 _ _ (0, 0) HGA.out.res
                have g0' := Gn.frozen_row HGA.out.res 0
                have g1' := Gn.frozen_row HGA.out.res 1
                go_upto_region 24 with fail
                go_region
                all_goals
                  go_wp2_with fail
                  refine bodyPost_ret (results_ct (P := Try.prog) rfl _ _ W.heap.size 33 _ (0, 0) _ _ rfl rfl HRS.out Try.underlying33 rfl (by kernel_rfl)) rfl ?_
                  rw [HR.out]
                  exact ⟨_, rfl, rl_zero _ _, Gn.below_drew HBE.out⟩
              | ok l =>
                obtain ⟨c1, t, ht, c0⟩ := dt_ok HGA.out
                obtain ⟨l1, hl1⟩ := rCs_ok hrz2.symm
                obtain ⟨l0, hl0⟩ := rInt_ok (n := 0) (HQ1.out.trans hl1)
                have hmE := HMLE.out (by rw [hl0]; rfl)
                have hcE := hcl rfl
                have HRE4 := Lib.hid (show getR (bs s) = if okR ⟨ml, cl⟩ = false then .error 2 else if rEnd (.ok l) ≠ 0 then .error (rEnd (.ok l)) else .ok ⟨ml, cl⟩ by rw [HRE3.out]; unfold getD9; rw [← hrz2, ← hmE, ← hcE]; exact if_neg (fun h => h rfl))
                have hsm := rMs_size r0 N
                have hsc := rCs_size r1 M
                rw [← hmE] at hsm
                rw [← hcE] at hsc
                have HRT := Lib.hid (right_any ⟨ml, cl⟩ (by show ml.length ≤ 4096; have := HMN.out; omega) (by show cl.length ≤ 4096; omega) (fun c hc => (hsc c hc).2) hsm (fun c hc => (hsc c hc).1) _ w8 _ HGA.out.rl)
                rw [right_is] at HRT
                obtain ⟨ok, hok⟩ : ∃ ok, ok = okR ⟨ml, cl⟩ := ⟨_, rfl⟩
                rw [← hok] at HRT HRE4
                have b0 := cell_of_row _ _ 0 _ _ (0, 0) HGA.out.box
                have b1 := cell_of_row _ _ 1 _ _ (0, 0) HGA.out.box
                have HT := Lib.hid ht
                clear hga hrz2 hcl hcn hnz2 hl1 hl0 hmE hcE hsm hsc hok ht
                go_wp2_with fail
                refine HRT.out.mono ?_
                rintro e w10 ⟨rfl, hb10⟩
                have HGA := Lib.hid (HGA.out.under hb10)
                clear hb10 b0 b1 c0 c1
                cases ok with
                | false =>
                  have HR := Lib.hid (show getR (bs s) = .error 2 by rw [HRE4.out]; rfl)
                  have HRS := Lib.hid HGA.out.exit.1
                  have HBE := Lib.hid HGA.out.exit.2
                  have r0' := cell_of_row _ _ 0 _ _ (0, 0) HGA.out.res
                  have r1' := cell_of_row _ _ 1 _ _ (0, 0) HGA.out.res
                  have g0' := Gn.frozen_row HGA.out.res 0
                  have g1' := Gn.frozen_row HGA.out.res 1
                  go_wp2_with fail
                  refine bodyPost_ret (results_ct (P := Try.prog) rfl _ _ W.heap.size 33 _ (0, 0) _ _ rfl rfl HRS.out Try.underlying33 rfl (by kernel_rfl)) rfl ?_
                  rw [HR.out]
                  exact ⟨_, rfl, rl_zero _ _, HBE.out⟩
                | true =>
                  obtain ⟨c1, t2, ht2, c0⟩ := dt_ok HGA.out
                  have HT2 := Lib.hid ht2
                  clear ht2
                  cases l with
                  | nil =>
                    have e1 : t2.toList = [] := by rw [Lib.toList_data]; exact HT2.out
                    have e2 : (!t2.toList.isEmpty) = false := by rw [e1]; rfl
                    have HR := Lib.hid (show getR (bs s) = .ok ⟨ml, cl⟩ by rw [HRE4.out]; rfl)
                    have HRS := Lib.hid HGA.out.full.1
                    have HFU := Lib.hid HGA.out.full.2
                    have b0 := cell_of_row _ _ 0 _ _ (0, 0) HGA.out.box
                    have b1 := cell_of_row _ _ 1 _ _ (0, 0) HGA.out.box
                    have r0' := cell_of_row _ _ 0 _ _ (0, 0) HGA.out.res
                    have r1' := cell_of_row _ _ 1 _ _ (0, 0) HGA.out.res
                    have g0' := Gn.frozen_row HGA.out.res 0
                    have g1' := Gn.frozen_row HGA.out.res 1
                    go_wp2_with fail
                    refine bodyPost_ret (results_ct (P := Try.prog) rfl _ _ W.heap.size 33 _ (0, 0) _ _ rfl rfl HRS.out Try.underlying33 rfl (by kernel_rfl)) rfl ?_
                    rw [HR.out]
                    exact HFU.out
                  | cons y l =>
                    have e1 : ¬ t2.toList = [] := by rw [Lib.toList_data]; intro h; have := HT2.out; rw [show bs t2 = t2.data.toList from rfl, h] at this; cases this
                    have e2 : (!t2.toList.isEmpty) = true := by cases hh : t2.toList with | nil => exact absurd hh e1 | cons _ _ => rfl
                    have HR := Lib.hid (show getR (bs s) = .error 4 by rw [HRE4.out]; rfl)
                    have HRS := Lib.hid HGA.out.exit.1
                    have HBE := Lib.hid HGA.out.exit.2
                    have r0' := cell_of_row _ _ 0 _ _ (0, 0) HGA.out.res
                    have r1' := cell_of_row _ _ 1 _ _ (0, 0) HGA.out.res
                    have g0' := Gn.frozen_row HGA.out.res 0
                    have g1' := Gn.frozen_row HGA.out.res 1
                    go_wp2_with fail
                    refine bodyPost_ret (results_ct (P := Try.prog) rfl _ _ W.heap.size 33 _ (0, 0) _ _ rfl rfl HRS.out Try.underlying33 rfl (by kernel_rfl)) rfl ?_
                    rw [HR.out]
                    exact ⟨_, rfl, rl_zero _ _, HBE.out⟩
end Go.Proofs.Ytnmhgjoofgmcgaa.Rl
