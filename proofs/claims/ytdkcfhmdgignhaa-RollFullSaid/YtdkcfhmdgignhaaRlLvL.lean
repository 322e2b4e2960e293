/-
  Layer 18: Leave's loop over classes, and its answer in plain words.
-/
import Derived.Test.YtdkcfhmdgignhaaRlPt
import Derived.Test.YtdkcfhmdgignhaaRlTeach
namespace Go.Proofs.Ytdkcfhmdgignhaa.Rl
open Go.RowKit
open Fx (StrsAt)
set_option maxRecDepth 100000
set_option linter.unusedSimpArgs false
set_option linter.unusedVariables false
def lvC (nm : ByteArray) (c : Cls) : Cls := ⟨c.name, c.teacher, outN c.studs nm⟩
def leaveM (r : Rol) (nm : ByteArray) : Except Nat Rol :=
  if hasN r.names nm = false then .error 10
  else if (r.cs.any fun c => decide (c.teacher = nm)) = true then .error 16
  else .ok ⟨r.ms.take (plc r.names nm) ++ r.ms.drop (plc r.names nm + 1), r.cs.map (lvC nm)⟩
/-- The students of a class as they stand in round k. -/
def stu (nm : ByteArray) (k i : Nat) (l : List ByteArray) : List ByteArray := if i < k then outN l nm else l
structure LvL (base : Nat) (W w : World) (cs : List Cls) (nm : ByteArray) (k : Nat) (rs : List CRaw) (ms : List Mem) (vm vc : Value) : Prop where
  rm : w.ownsRow base 49 3 vm ms.length (cellsOf encM ms)
  rc : w.ownsRow base 54 3 vc cs.length (cellsOf encC rs)
  len : rs.length = cs.length
  nms : ∀ (i : Nat) (h : i < rs.length) (h2 : i < cs.length), rs[i].name = cs[i].name ∧ rs[i].teacher = cs[i].teacher
  own : ∀ (i : Nat) (h : i < rs.length) (h2 : i < cs.length), w.ownsRow base 9 1 rs[i].studs (stu nm k i cs[i].studs).length ((stu nm k i cs[i].studs).map Value.string) ∧ ∀ b, rs[i].studs.ownBlock = some b → vm.ownBlock ≠ some b ∧ vc.ownBlock ≠ some b
  dis : ∀ (i j : Nat) (h : i < rs.length) (h2 : j < rs.length), i < j → ∀ b, rs[i].studs.ownBlock = some b → rs[j].studs.ownBlock ≠ some b
  ne : ∀ q, vm.ownBlock = some q → vc.ownBlock ≠ some q
  bel : Below W.heap.size W w
  box : w.heap[W.heap.size]? = some (.cells #[vm, vc] 26 (0, 0))
  nam : w.heap[W.heap.size + 1]? = some (.cells #[.string nm] 9 (0, 0))
  res : w.heap[W.heap.size + 2]? = some (.cells #[.slice none 0 0, .slice none 0 0] 26 (0, 0))
  low : W.heap.size + 3 ≤ base
  hi : base ≤ w.heap.size
theorem LvL.under {base : Nat} {W w w' : World} {cs : List Cls} {nm : ByteArray} {k : Nat} {rs : List CRaw} {ms : List Mem} {vm vc : Value} (h : LvL base W w cs nm k rs ms vm vc) (b : Below w.heap.size w w') : LvL base W w' cs nm k rs ms vm vc :=
  ⟨own_keep h.rm fun q hq => b.block q (Gn.own_lt h.rm q hq), own_keep h.rc fun q hq => b.block q (Gn.own_lt h.rc q hq), h.len, h.nms, fun i h1 h2 => ⟨own_keep (h.own i h1 h2).1 fun q hq => b.block q (Gn.own_lt (h.own i h1 h2).1 q hq), (h.own i h1 h2).2⟩, h.dis, h.ne, h.bel.trans (b.mono h.bel.size), (b.block _ (Gn.heap_lt h.box)).trans h.box, (b.block _ (Gn.heap_lt h.nam)).trans h.nam, (b.block _ (Gn.heap_lt h.res)).trans h.res, h.low, Nat.le_trans h.hi b.size⟩
theorem stu_at (nm : ByteArray) (k : Nat) (l : List ByteArray) : stu nm k k l = l := if_neg (Nat.lt_irrefl k)
theorem stu_next (nm : ByteArray) (k : Nat) (l : List ByteArray) : stu nm (k + 1) k l = outN l nm := if_pos (Nat.lt_succ_self k)
theorem stu_else (nm : ByteArray) {k i : Nat} (h : i ≠ k) (l : List ByteArray) : stu nm (k + 1) i l = stu nm k i l := by
  unfold stu
  by_cases h1 : i < k
  · rw [if_pos h1, if_pos (by omega)]
  · rw [if_neg h1, if_neg (by omega)]
/-- One class more. -/
theorem LvL.next {base : Nat} {W w w' : World} {cs : List Cls} {nm : ByteArray} {k : Nat} {rs : List CRaw} {ms : List Mem} {vm sv' : Value} {g4 m c4 : Nat} {cur : Array Value} (hm : m = cs.length) (h : LvL base W w cs nm k rs ms vm (.slice (some ⟨g4, 0, none⟩) m c4)) (hk : k < cs.length) (hkr : k < rs.length) (hcur : w.heap[g4]? = some (.cells cur 54 (0, 0)))
    (hp : PartS base g4 (k * 3) 54 cur (outN cs[k].studs nm) rs[k].studs w w' sv') : LvL base W w' cs nm (k + 1) (rs.set k ⟨rs[k].name, rs[k].teacher, sv'⟩) ms vm (.slice (some ⟨g4, 0, none⟩) m c4) := by
  subst hm
  obtain ⟨o1, o2⟩ := h.own k hkr hk
  have hg4 : base ≤ g4 := Gn.own_block h.rc g4 rfl
  have hlow := h.low
  have hhi := h.hi
  have hsb : ∀ q, rs[k].studs.ownBlock = some q → base ≤ q := fun q hq => Gn.own_block o1 q hq
  have hkp : ∀ q, q < w.heap.size → q ≠ g4 → rs[k].studs.ownBlock ≠ some q → w'.heap[q]? = w.heap[q]? := hp.keep
  have hlo : ∀ q, q < base → w'.heap[q]? = w.heap[q]? := fun q hq => hkp q (by omega) (by omega) (fun e => by have := hsb q e; omega)
  have hbw : Below W.heap.size W w' := ⟨hp.os.trans h.bel.os, hp.tape.trans h.bel.tape, hp.output.trans h.bel.output, Nat.le_trans h.bel.size hp.size, fun q hq => (hlo q (by omega)).trans (h.bel.block q hq)⟩
  refine ⟨own_keep h.rm fun q hq => hkp q (Gn.own_lt h.rm q hq) (fun e => h.ne q hq (by rw [e]; rfl)) (fun e => (o2 q e).1 hq), ?_, by rw [List.length_set]; exact h.len, fun i h1 h2 => ?_, fun i h1 h2 => ?_, fun i j h1 h2 hij b hb => ?_, h.ne, hbw, (hlo _ (by omega)).trans h.box, (hlo _ (by omega)).trans h.nam, (hlo _ (by omega)).trans h.res, h.low, Nat.le_trans h.hi hp.size⟩
  · refine own_keep (own_studs h.rc h.len hkr sv') fun q hq => ?_
    have e9 : g4 = q := Option.some.inj hq
    subst e9
    exact hp.row.trans (Gn.heap_set hcur (k * 3 + 2) sv').symm
  · have h1' : i < rs.length := by simpa using h1
    by_cases hik : i = k
    · subst hik
      rw [List.getElem_set_self]
      exact h.nms i h1' h2
    · rw [List.getElem_set_ne (fun e => hik e.symm)]
      exact h.nms i h1' h2
  · have h1' : i < rs.length := by simpa using h1
    by_cases hik : i = k
    · subst hik
      rw [List.getElem_set_self, stu_next]
      exact ⟨hp.own, fun b hb => o2 b (by rw [← hp.blk]; exact hb)⟩
    · rw [List.getElem_set_ne (fun e => hik e.symm), stu_else nm hik]
      obtain ⟨p1, p2⟩ := h.own i h1' h2
      refine ⟨own_keep p1 fun q hq => hkp q (Gn.own_lt p1 q hq) (fun e => (p2 q hq).2 (by rw [e]; rfl)) (fun e => ?_), p2⟩
      rcases Nat.lt_or_ge i k with h9 | h9
      · exact h.dis i k h1' hkr h9 q hq e
      · exact h.dis k i hkr h1' (by omega) q e hq
  · have h1' : i < rs.length := by simpa using h1
    have h2' : j < rs.length := by simpa using h2
    have hb1 : rs[i].studs.ownBlock = some b := by
      by_cases hik : i = k
      · subst hik
        rw [List.getElem_set_self] at hb
        rw [← hp.blk]; exact hb
      · rw [List.getElem_set_ne (fun e => hik e.symm)] at hb
        exact hb
    intro hc
    have hc1 : rs[j].studs.ownBlock = some b := by
      by_cases hik : j = k
      · subst hik
        rw [List.getElem_set_self] at hc
        rw [← hp.blk]; exact hc
      · rw [List.getElem_set_ne (fun e => hik e.symm)] at hc
        exact hc
    exact h.dis i j h1' h2' hij b hb1 hc1
/-- Behind the last class. -/
theorem LvL.done {base : Nat} {W w w' : World} {cs : List Cls} {nm : ByteArray} {k : Nat} {rs : List CRaw} {ms : List Mem} {vm vc : Value} (h : LvL base W w cs nm k rs ms vm vc) (hk : k = cs.length) (hs : w.heap.size ≤ w'.heap.size) (hq : ∀ q, base ≤ q → q < w.heap.size → w'.heap[q]? = w.heap[q]?) :
    RlAt (fun b => base ≤ b) w' ⟨ms, cs.map (lvC nm)⟩ (.agg #[vm, vc]) := by
  have hl := h.len
  refine rl_done (r := ⟨ms, cs.map (lvC nm)⟩) (own_keep h.rm fun q hq9 => hq q (Gn.own_block h.rm q hq9) (Gn.own_lt h.rm q hq9)) (by rw [List.length_map]; exact own_keep h.rc fun q hq9 => hq q (Gn.own_block h.rc q hq9) (Gn.own_lt h.rc q hq9)) ⟨by rw [List.length_map]; exact hl, fun i h1 h2 => ?_⟩
  have h2' : i < cs.length := by simpa using h2
  obtain ⟨n1, n2⟩ := h.nms i h1 h2'
  obtain ⟨o1, _⟩ := h.own i h1 h2'
  have hst : stu nm k i cs[i].studs = outN cs[i].studs nm := if_pos (by omega)
  rw [hst] at o1
  simp only [List.getElem_map]
  exact ⟨n1, n2, strs_own (own_keep o1 fun q hq9 => hq q (Gn.own_block o1 q hq9) (Gn.own_lt o1 q hq9))⟩
end Go.Proofs.Ytdkcfhmdgignhaa.Rl
