/-
  Layer 18: the document's Of and In.
  Layer 18: the document's Copy.
  Layer 18: what the document's offices share.
  Layer 18: classes' rows that are taken apart and put together.
  Layer 18: a store into a member or a class.
-/
import Derived.Test.YtnmhgjoofgmcgaaGreatRlRFd
import Derived.Test.YtnmhgjoofgmcgaaGreatRlInv
import Derived.Test.YtnmhgjoofgmcgaaGreatRlTd
import Derived.Deep.RegionHeld3
import Derived.Deep.DeepCutAuto
import Derived.Laws.AppendOwnNone
import Derived.Test.YtnmhgjoofgmcgaaGreatRlJo

namespace Go.Proofs.YtnmhgjoofgmcgaaGreat.Rl
open Go.RowKit
open Fx (StrsAt)
set_option maxRecDepth 100000
set_option linter.unusedSimpArgs false
set_option linter.unusedVariables false
theorem plc_at {l : List ByteArray} (hs : Rising l) (nm : ByteArray) (j : Nat) (hj : j < l.length) : l[j] = nm ↔ (hasN l nm = true ∧ j = plc l nm) := by
  constructor
  · intro h
    have hm : nm ∈ l := by rw [← h]; exact List.getElem_mem hj
    obtain ⟨h1, h2⟩ := (plc_mem l nm hs).2 hm
    have h3 := cmpN_eq h2
    refine ⟨hasN_iff.2 hm, ?_⟩
    rcases Nat.lt_trichotomy j (plc l nm) with h4 | h4 | h4
    · have := hs.at_ h4 h1
      rw [h, ← h3, cmpN_self] at this
      exact absurd this (by decide)
    · exact h4
    · have := hs.at_ h4 hj
      rw [h, ← h3, cmpN_self] at this
      exact absurd this (by decide)
  · rintro ⟨h, rfl⟩
    obtain ⟨h1, h2⟩ := (plc_mem l nm hs).2 (hasN_iff.1 h)
    exact (cmpN_eq h2).symm
/-- Where a class stands, or -1. -/
def ofI (l : List ByteArray) (nm : ByteArray) : Int := if hasN l nm = true then (plc l nm : Int) else -1
set_option maxHeartbeats 4000000 in
theorem of_any (r : Rol) (nm : ByteArray) (P : Nat → Prop) (W : World) (v : Value) (h : RlAt P W r v) (hs : Rising r.classes) (hn : r.cs.length ≤ 4096) :
    Calls Tryz.prog 15 #[v, .string nm] W fun e w' => e = .returned (.int .i64 (ofI r.classes nm)) ∧ Below W.heap.size W w' := by
  obtain ⟨Am, cm, Ac, cc, rfl, hms, hcs⟩ := h.form
  obtain ⟨raws, hrow, hall⟩ := hcs
  have hrl : raws.length = r.cs.length := hall.1
  obtain ⟨n, hnn⟩ : ∃ n, n = r.ms.length := ⟨_, rfl⟩
  obtain ⟨m, hmm⟩ : ∃ m, m = r.cs.length := ⟨_, rfl⟩
  rw [← hnn]
  rw [← hmm] at hrl hn ⊢
  obtain ⟨V, hV⟩ : ∃ V, V = W.alloc (.cells #[.slice Am n cm, .slice Ac m cc] 31) := ⟨_, rfl⟩
  have hb : Below W.heap.size W V := by rw [hV]; exact (Below.refl _ W).alloc (Nat.le_refl _) _
  have hx0 : V.heap[W.heap.size]? = some (.cells #[.slice Am n cm, .slice Ac m cc] 31 (0, 0)) := by rw [hV]; exact heap_alloc_new W _
  have x1 := cell_of_row _ _ 1 _ _ (0, 0) hx0
  have hcl : r.classes.length = m := by rw [hmm]; simp [Rol.classes]
  have HNM := Lib.hid (fun (j : Nat) (h1 : j < raws.length) (h2 : j < r.classes.length) => show raws[j].name = r.classes[j] by
    rw [(hall.2 j h1 (by rw [← hmm, ← hcl]; exact h2)).1]; simp [Rol.classes])
  obtain ⟨l, hl⟩ : ∃ l, l = r.classes := ⟨_, rfl⟩
  rw [← hl] at hcl hs HNM ⊢
  obtain ⟨A, cap, b, he, hcap, _, hA, hc⟩ := RowAt.under hrow hb
  rw [hrl] at he hcap hA
  injection he with he1 he2 he3
  subst he1
  subst he3
  have HS := Lib.hid hs
  have HV := Lib.hid hV
  have HB := Lib.hid hb
  have HA := Lib.hid hA
  have HC := Lib.hid (fun i hi => hc i hi 0 _ rfl)
  have HEQ := Lib.hid bytes_eq
  have HRL := Lib.hid hrl
  have HCL := Lib.hid hcl
  clear hms hrow hall hA hc hcap he2 hV hb hx0 hrl hcl hs hl hnn hmm h
  go_enter Tryz.func15, Tryz.ntmps15
  go_upto_region 1 with fail
  rw [← HV.out]
  go_wp2_with fail
  go_loopw [5] (fun i wr => ∃ j : Nat, j ≤ m ∧ i = .int .i64 j ∧ wr = V ∧ ∀ k (h : k < l.length), k < j → l[k] ≠ nm) (fun i _ => m - (intOf i).toNat)
  case atStart => exact ⟨0, Nat.zero_le _, rfl, rfl, fun k _ h => absurd h (by omega)⟩
  case round =>
    obtain ⟨j, hj, rfl, rfl, hno⟩ := hrel
    have HNO := Lib.hid hno
    clear hno
    by_cases hjn : j < m
    · have hjn2 : (j : Int) < (m : Int) := by omega
      have hjr : j < raws.length := by rw [HRL.out]; exact hjn
      have hjl : j < l.length := by rw [HCL.out]; exact hjn
      obtain ⟨rfl, hb, _⟩ := HA.out (by omega)
      obtain ⟨x, hx⟩ : ∃ x, x = l[j] := ⟨_, rfl⟩
      have c0 := HC.out j hjr
      rw [HNM.out j hjr hjl, ← hx, Nat.add_zero] at c0
      by_cases hq : x = nm
      · have e1 : (x.toList == nm.toList) = true := by rw [HEQ.out, decide_eq_true hq]
        have HF := Lib.hid (show ofI l nm = (j : Int) by
          obtain ⟨a1, a2⟩ := (plc_at HS.out nm j hjl).1 (hx.symm.trans hq)
          unfold ofI; rw [if_pos a1, ← a2])
        clear hq hx hjr hjl
        go_wp2_with fail
        go_ret
        exact ⟨by rw [HF.out]; rfl, HB.out⟩
      · have e1 : (x.toList == nm.toList) = false := by rw [HEQ.out, decide_eq_false hq]
        have HF := Lib.hid (show ∀ k (h : k < l.length), k < j + 1 → l[k] ≠ nm from fun k h hk => by
          by_cases hkj : k = j
          · subst hkj; rw [← hx]; exact hq
          · exact HNO.out k h (by omega))
        clear hq hx hjr hjl
        go_wp2
        go_roundw
        case rel => exact ⟨j + 1, by omega, by go_num, trivial, HF.out⟩
        case measure => simp [intOf]; omega
    · have hjn2 : ¬ (j : Int) < (m : Int) := by omega
      have HF := Lib.hid (show ofI l nm = -1 by
        unfold ofI
        rw [if_neg fun h => by
          obtain ⟨h1, h2⟩ := (plc_mem l nm HS.out).2 (hasN_iff.1 h)
          exact HNO.out (plc l nm) h1 (by have := HCL.out; omega) (cmpN_eq h2).symm])
      go_wp2_with fail
      go_ret
      exact ⟨by rw [HF.out]; rfl, HB.out⟩
set_option maxHeartbeats 4000000 in
theorem in_any (l : List ByteArray) (nm : ByteArray) (P : Nat → Prop) (W : World) (v : Value) (h : StrsAt P W l v) (hn : l.length ≤ 4096) :
    Calls Tryz.prog 16 #[v, .string nm] W fun e w' => e = .returned (.bool (hasN l nm)) ∧ Below W.heap.size W w' := by
  obtain ⟨m, hmm⟩ : ∃ m, m = l.length := ⟨_, rfl⟩
  obtain ⟨A, cap, b, rfl, hcap, hA, hc⟩ := h
  rw [← hmm] at hn hcap hA ⊢
  have HMM := Lib.hid hmm
  have HA := Lib.hid hA
  have HC := Lib.hid hc
  have HEQ := Lib.hid bytes_eq
  clear hmm hA hc hcap
  go_enter Tryz.func16, Tryz.ntmps16
  go_wp2_with fail
  go_loopw [5] (fun i wr => ∃ j : Nat, j ≤ m ∧ i = .int .i64 j ∧ wr = W ∧ ∀ k (h : k < l.length), k < j → l[k] ≠ nm) (fun i _ => m - (intOf i).toNat)
  case atStart => exact ⟨0, Nat.zero_le _, rfl, rfl, fun k _ h => absurd h (by omega)⟩
  case round =>
    obtain ⟨j, hj, rfl, rfl, hno⟩ := hrel
    have HNO := Lib.hid hno
    clear hno
    by_cases hjn : j < m
    · have hjn2 : (j : Int) < (m : Int) := by omega
      have hjl : j < l.length := by rw [← HMM.out]; exact hjn
      obtain ⟨rfl, hb, _⟩ := HA.out (by omega)
      obtain ⟨x, hx⟩ : ∃ x, x = l[j] := ⟨_, rfl⟩
      have c0 := HC.out j hjl
      rw [← hx] at c0
      by_cases hq : x = nm
      · have e1 : (x.toList == nm.toList) = true := by rw [HEQ.out, decide_eq_true hq]
        have HF := Lib.hid (show hasN l nm = true from hasN_iff.2 (by rw [← hq, hx]; exact List.getElem_mem hjl))
        clear hq hx hjl
        go_wp2_with fail
        go_ret
        exact ⟨by rw [HF.out]; rfl, Below.refl _ _⟩
      · have e1 : (x.toList == nm.toList) = false := by rw [HEQ.out, decide_eq_false hq]
        have HF := Lib.hid (show ∀ k (h : k < l.length), k < j + 1 → l[k] ≠ nm from fun k h hk => by
          by_cases hkj : k = j
          · subst hkj; rw [← hx]; exact hq
          · exact HNO.out k h (by omega))
        clear hq hx hjl
        go_wp2
        go_roundw
        case rel => exact ⟨j + 1, by omega, by go_num, trivial, HF.out⟩
        case measure => simp [intOf]; omega
    · have hjn2 : ¬ (j : Int) < (m : Int) := by omega
      have HF := Lib.hid (show hasN l nm = false by
        cases hh : hasN l nm with
        | false => rfl
        | true =>
          obtain ⟨k, hk, hk2⟩ := List.getElem_of_mem (hasN_iff.1 hh)
          exact absurd hk2 (HNO.out k hk (by have := HMM.out; omega)))
      go_wp2_with fail
      go_ret
      exact ⟨by rw [HF.out]; rfl, Below.refl _ _⟩
end Go.Proofs.YtnmhgjoofgmcgaaGreat.Rl

namespace Go.Proofs.YtnmhgjoofgmcgaaGreat.Rl
open Go.RowKit
open Fx (StrsAt)
set_option maxRecDepth 100000
set_option linter.unusedSimpArgs false
set_option linter.unusedVariables false
/-- Is a name kept, where one is left out? -/
def keepB (wo nm : ByteArray) : Bool := decide (wo = ⟨#[]⟩) || decide (nm ≠ wo)
def keepM (wo : ByteArray) (l : List Mem) : List Mem := l.filter fun m => keepB wo m.name
def keepS (wo : ByteArray) (l : List ByteArray) : List ByteArray := l.filter fun s => keepB wo s
def keepC (wo : ByteArray) (c : Cls) : Cls := ⟨c.name, c.teacher, keepS wo c.studs⟩
/-- All anew, without a member. -/
def copyM (r : Rol) (wo : ByteArray) : Rol := ⟨keepM wo r.ms, r.cs.map (keepC wo)⟩
/-- A roll whose rows are all the call's own. -/
structure CpAt (base : Nat) (w : World) (ms : List Mem) (cs : List Cls) (raws : List CRaw) (vm vc : Value) : Prop where
  rm : w.ownsRow base 48 3 vm ms.length (cellsOf encM ms)
  rc : w.ownsRow base 57 3 vc cs.length (cellsOf encC raws)
  len : raws.length = cs.length
  own : ∀ (i : Nat) (h : i < raws.length) (h2 : i < cs.length), raws[i].name = cs[i].name ∧ raws[i].teacher = cs[i].teacher ∧ w.ownsRow base 9 1 raws[i].studs cs[i].studs.length (cs[i].studs.map Value.string)
/-- All these rows lie below a block. -/
def LtQ (q : Nat) (raws : List CRaw) (vm vc : Value) : Prop := (∀ k, vm.ownBlock = some k → k < q) ∧ (∀ k, vc.ownBlock = some k → k < q) ∧ ∀ (i : Nat) (h : i < raws.length) k, raws[i].studs.ownBlock = some k → k < q
section
variable {base : Nat} {w w' : World} {ms : List Mem} {cs : List Cls} {raws : List CRaw} {vm vc : Value}
theorem CpAt.ltq (h : CpAt base w ms cs raws vm vc) : LtQ w.heap.size raws vm vc :=
  ⟨fun k hk => Gn.own_lt h.rm k hk, fun k hk => Gn.own_lt h.rc k hk, fun i hi k hk => Gn.own_lt (h.own i hi (by rw [← h.len]; exact hi)).2.2 k hk⟩
theorem CpAt.blocks (h : CpAt base w ms cs raws vm vc) {q : Nat} (hl : LtQ q raws vm vc) (hk : ∀ k, base ≤ k → k < q → w'.heap[k]? = w.heap[k]?) : CpAt base w' ms cs raws vm vc :=
  ⟨own_keep h.rm fun k hq => hk k (Gn.own_block h.rm k hq) (hl.1 k hq), own_keep h.rc fun k hq => hk k (Gn.own_block h.rc k hq) (hl.2.1 k hq), h.len, fun i h1 h2 => ⟨(h.own i h1 h2).1, (h.own i h1 h2).2.1, own_keep (h.own i h1 h2).2.2 fun k hq => hk k (Gn.own_block (h.own i h1 h2).2.2 k hq) (hl.2.2 i h1 k hq)⟩⟩
theorem CpAt.under (h : CpAt base w ms cs raws vm vc) (b : Below w.heap.size w w') : CpAt base w' ms cs raws vm vc := h.blocks h.ltq fun k _ hk => b.block k hk
theorem CpAt.nil (base : Nat) (w : World) : CpAt base w [] [] [] (.slice none 0 0) (.slice none 0 0) := ⟨World.ownsRow_nil _ _ _ _, World.ownsRow_nil _ _ _ _, rfl, fun i h => absurd h (by simp)⟩
theorem CpAt.low (h : CpAt base w ms cs raws vm vc) {b : Nat} (hb : b ≤ base) : CpAt b w ms cs raws vm vc := ⟨own_low h.rm hb, own_low h.rc hb, h.len, fun i h1 h2 => ⟨(h.own i h1 h2).1, (h.own i h1 h2).2.1, own_low (h.own i h1 h2).2.2 hb⟩⟩
theorem CpAt.rl (h : CpAt base w ms cs raws vm vc) : RlAt (fun b => base ≤ b) w ⟨ms, cs⟩ (.agg #[vm, vc]) :=
  ⟨vm, vc, rfl, RowAt.of_own encM_len h.rm, raws, RowAt.of_own (l := raws) encC_len (by rw [h.len]; exact h.rc), h.len, fun i h1 h2 => ⟨(h.own i h1 h2).1, (h.own i h1 h2).2.1, strs_own (h.own i h1 h2).2.2⟩⟩
end
/-- What Copy leaves. -/
def CopyOut (W : World) (r : Rol) (e : Ending) (w' : World) : Prop := ∃ vm vc raws, e = .returned (.agg #[vm, vc]) ∧ CpAt W.heap.size w' r.ms r.cs raws vm vc ∧ Below W.heap.size W w'
/-- Between Copy's steps. -/
structure CdA (V w : World) (ms : List Mem) (cs : List Cls) (raws : List CRaw) (vm vc : Value) : Prop where
  bel : Below V.heap.size V w
  box : w.heap[V.heap.size]? = some (.cells #[vm, vc] 31 (0, 0))
  cp : CpAt (V.heap.size + 1) w ms cs raws vm vc
section
variable {V w w' : World} {ms : List Mem} {cs : List Cls} {raws : List CRaw} {vm vc : Value}
theorem CdA.underQ (h : CdA V w ms cs raws vm vc) {q : Nat} (hl : LtQ q raws vm vc) (hq : V.heap.size < q) (b : Below q w w') : CdA V w' ms cs raws vm vc :=
  ⟨h.bel.trans (b.mono (by omega)), (b.block _ hq).trans h.box, h.cp.blocks hl fun k _ hk => b.block k hk⟩
theorem CdA.under (h : CdA V w ms cs raws vm vc) (b : Below w.heap.size w w') : CdA V w' ms cs raws vm vc := h.underQ h.cp.ltq (Gn.heap_lt h.box) b
theorem CdA.grown (h : CdA V w ms cs raws vm vc) {T : TypeId} {s n : Nat} {v : Value} {xs : List Value} (ho : w.ownsRow (V.heap.size + 1) T s v n xs) (hg : w.grownBy w' v.ownBlock) : Below V.heap.size V w' ∧ w'.heap[V.heap.size]? = some (.cells #[vm, vc] 31 (0, 0)) := by
  have hlt := Gn.heap_lt h.box
  have hk : ∀ q, q < V.heap.size + 1 → w'.heap[q]? = w.heap[q]? := fun q hq => hg.block q (by omega) (fun e => by have := Gn.own_block ho q e.symm; omega)
  exact ⟨⟨hg.os.trans h.bel.os, hg.tape.trans h.bel.tape, hg.output.trans h.bel.output, Nat.le_trans h.bel.size hg.size, fun q hq => (hk q (by omega)).trans (h.bel.block q hq)⟩, (hk _ (by omega)).trans h.box⟩
theorem CdA.snocM (h : CdA V w ms cs raws vm vc) {m : Mem} {v' : Value} (ho : w'.ownsRow (V.heap.size + 1) 48 3 v' (ms.length + 1) (cellsOf encM ms ++ encM m)) (hg : w.grownBy w' vm.ownBlock) : CdA V (w'.setCell ⟨V.heap.size, 0, none⟩ v') (ms ++ [m]) cs raws v' vc := by
  obtain ⟨h1, h2⟩ := h.grown h.cp.rm hg
  have hc := own_far h.cp.rm h.cp.rc (by decide) hg
  refine ⟨h1.setCell (Nat.le_refl _) _, Gn.heap_set h2 0 _, ?_, own_keep hc fun q hq => set_far q (by have := Gn.own_block hc q hq; omega), h.cp.len, fun i h1 h2 => ?_⟩
  · rw [List.length_append, cellsOf_app]
    have e : cellsOf encM [m] = encM m := by simp [cellsOf]
    rw [e]
    exact own_keep ho fun q hq => set_far q (by have := Gn.own_block ho q hq; omega)
  · obtain ⟨a1, a2, a3⟩ := h.cp.own i h1 h2
    have hs := own_far h.cp.rm a3 (by decide) hg
    exact ⟨a1, a2, own_keep hs fun q hq => set_far q (by have := Gn.own_block hs q hq; omega)⟩
theorem CdA.snocC (h : CdA V w ms cs raws vm vc) {c : CRaw} {d : Cls} {v' : Value} (ho : w'.ownsRow (V.heap.size + 1) 57 3 v' (cs.length + 1) (cellsOf encC raws ++ encC c)) (hg : w.grownBy w' vc.ownBlock) (hd : c.name = d.name ∧ c.teacher = d.teacher ∧ w.ownsRow (V.heap.size + 1) 9 1 c.studs d.studs.length (d.studs.map Value.string)) : CdA V (w'.setCell ⟨V.heap.size, 1, none⟩ v') ms (cs ++ [d]) (raws ++ [c]) vm v' := by
  obtain ⟨h1, h2⟩ := h.grown h.cp.rc hg
  have hc := own_far h.cp.rc h.cp.rm (by decide) hg
  have hl := h.cp.len
  refine ⟨h1.setCell (Nat.le_refl _) _, Gn.heap_set h2 1 _, own_keep hc fun q hq => set_far q (by have := Gn.own_block hc q hq; omega), ?_, by rw [List.length_append, List.length_append, hl]; rfl, fun i i1 i2 => ?_⟩
  · rw [List.length_append, cellsOf_app]
    have e : cellsOf encC [c] = encC c := by simp [cellsOf]
    rw [e]
    exact own_keep ho fun q hq => set_far q (by have := Gn.own_block ho q hq; omega)
  · by_cases hi : i < cs.length
    · rw [List.getElem_append_left (by omega), List.getElem_append_left hi]
      obtain ⟨a1, a2, a3⟩ := h.cp.own i (by omega) hi
      have hs := own_far h.cp.rc a3 (by decide) hg
      exact ⟨a1, a2, own_keep hs fun q hq => set_far q (by have := Gn.own_block hs q hq; omega)⟩
    · simp only [List.length_append, List.length_singleton] at i1 i2
      have e1 : (raws ++ [c])[i] = c := by rw [List.getElem_append_right (by omega)]; simp
      have e2 : (cs ++ [d])[i] = d := by rw [List.getElem_append_right (by omega)]; simp
      rw [e1, e2]
      have hs := own_far h.cp.rc hd.2.2 (by decide) hg
      exact ⟨hd.1, hd.2.1, own_keep hs fun q hq => set_far q (by have := Gn.own_block hs q hq; omega)⟩
end
theorem keep_snoc {α : Type} (p : α → Bool) (l : List α) (k : Nat) (h : k < l.length) : (l.take (k + 1)).filter p = (l.take k).filter p ++ if p l[k] = true then [l[k]] else [] := by
  rw [List.take_succ_eq_append_getElem h, List.filter_append]
  congr 1
  by_cases hp : p l[k] = true
  · rw [if_pos hp, List.filter_cons, if_pos hp]; rfl
  · rw [if_neg hp, List.filter_cons, if_neg hp]; rfl
theorem keep_len {α : Type} (p : α → Bool) (l : List α) (k : Nat) : ((l.take k).filter p).length ≤ k := by
  have := List.length_filter_le p (l.take k)
  rw [List.length_take] at this
  omega
/-- Append of one text, as a step of a region that draws. -/
theorem step_append_str {ops : Array Oper} {o : Oper} {a : Act} {K : Act → World → Prop} {Q : Exit → Act → World → Prop} {E : Prop} (w : World) (hgd : o.guard = none) (s x : Operand)
    (ho : o.op = .call { callee := .builtin .append, args := #[s, x], argTypes := #[51, 51] })
    (base : Nat) (v : Value) (n : Nat) (xs : List Value) (hs : a.eval s = v) (hown : w.ownsRow base 9 1 v n xs) (ad : Addr) (c : Nat) (hx : a.eval x = .slice (some ad) 1 c) (y : ByteArray) (hnews : ∀ j u, [Value.string y][j]? = some u → w.cell? (ad.add j) = some u) (h63 : n + 1 ≤ maxLen) (hbytes : (n + 1) * 16 ≤ 140737488355328) (hb : base ≤ w.heap.size)
    (h : ∀ v' w', w'.ownsRow base 9 1 v' (n + 1) (xs ++ [.string y]) → w.grownBy w' v.ownBlock → K (a.put o.dst v') w') :
    if Region.wanted o (yielded ops a.tmps) = true then Oper.wp Tryz.prog o a w K Q else E := by
  obtain ⟨i, hi, hz, hsize, hby⟩ := info_parts Oct.strinfo
  have hw : Region.wanted o (yielded ops a.tmps) = true := by simp [Region.wanted, hgd]
  rw [if_pos hw]
  obtain ⟨v', w', hr, h2, h3, _⟩ := run_append_own (P := Tryz.prog) w base 51 o.type 9 i (.string ByteArray.empty) 1 16 Tryz.underlying51 hi hz hsize hby rfl (by decide) v n xs hown ad 1 c [.string y] rfl hnews (by intro u hu; simp at hu; rw [hu]; rfl) h63 hbytes hb
  unfold Oper.wp execOp
  simp only [ho, resolve, invoke, builtin, Sem.run_bind, Sem.run_pure, Result.andThen_ok, List.map_toArray, List.map_cons, List.map_nil, hs, hx, hr]
  exact h v' w' h2 h3
theorem row_grown {q : Nat} {M w1 w9 : World} {cn ct sn : ByteArray} {sv v9 : Value} {acc : List ByteArray} {nl : Nat} (hb : Below q M w1) (hc : w1.heap[q]? = some (.cells #[.string cn, .string ct, sv] 57 (0, 0))) (ho : w9.ownsRow (q + 1) 9 1 v9 (nl + 1) (acc.map Value.string ++ [.string sn])) (hg : w1.grownBy w9 sv.ownBlock) (hs : ∀ k, sv.ownBlock = some k → q + 1 ≤ k) (hnl : acc.length = nl) :
    Below q M w9 ∧ w9.heap[q]? = some (.cells #[.string cn, .string ct, sv] 57 (0, 0)) ∧ (w9.setCell ⟨q, 2, none⟩ v9).heap[q]? = some (.cells #[.string cn, .string ct, v9] 57 (0, 0)) ∧ Below q M (w9.setCell ⟨q, 2, none⟩ v9) ∧ (w9.setCell ⟨q, 2, none⟩ v9).ownsRow (q + 1) 9 1 v9 (acc ++ [sn]).length ((acc ++ [sn]).map Value.string) := by
  have hlt := Gn.heap_lt hc
  have hk : ∀ k, k < q + 1 → w9.heap[k]? = w1.heap[k]? := fun k h => hg.block k (by omega) (fun e => by have := hs k e.symm; omega)
  have h1 : Below q M w9 := ⟨hg.os.trans hb.os, hg.tape.trans hb.tape, hg.output.trans hb.output, Nat.le_trans hb.size hg.size, fun k h => (hk k (by omega)).trans (hb.block k h)⟩
  have h2 := (hk q (by omega)).trans hc
  refine ⟨h1, h2, Gn.heap_set h2 2 _, h1.setCell (Nat.le_refl _) _, ?_⟩
  rw [List.length_append, List.map_append, hnl]
  exact own_keep ho fun k hq => set_far k (by have := Gn.own_block ho k hq; omega)
set_option maxHeartbeats 16000000 in
theorem copy_any (r : Rol) (wo : ByteArray) (hn : r.ms.length ≤ 4096) (hm : r.cs.length ≤ 4096) (hst : ∀ c ∈ r.cs, c.studs.length ≤ 4096) (P : Nat → Prop) (W : World) (v : Value) (h : RlAt P W r v) :
    Calls Tryz.prog 65 #[v, .string wo] W (CopyOut W (copyM r wo)) := by
  obtain ⟨i0, hi0, hz0, hz1, hz2⟩ := info_parts DM_info
  obtain ⟨i1, hi1, hy0, hy1, hy2⟩ := info_parts DC_info
  have HEQ := Lib.hid bytes_eq
  have HWO := Lib.hid (show wo = ⟨#[]⟩ ∨ (¬ wo.toList = [] ∧ wo.toList.isEmpty = false ∧ wo ≠ ⟨#[]⟩) from by
    by_cases hw : wo = ⟨#[]⟩
    · exact .inl hw
    · right
      have h1 : ¬ wo.toList = [] := fun h => hw (by
        apply ByteArray.ext
        rw [ByteArray.toList_eq] at h
        exact Array.toList_inj.1 h)
      exact ⟨h1, by cases hh : wo.toList with | nil => exact absurd hh h1 | cons _ _ => rfl, hw⟩)
  obtain ⟨Am, cm, Ac, cc, rfl, hms, hcs⟩ := h.form
  obtain ⟨raws, hrow, hall⟩ := hcs
  have hrl : raws.length = r.cs.length := hall.1
  obtain ⟨n, hnn⟩ : ∃ n, n = r.ms.length := ⟨_, rfl⟩
  obtain ⟨m, hmm⟩ : ∃ m, m = r.cs.length := ⟨_, rfl⟩
  rw [← hnn] at hms hn ⊢
  rw [← hmm] at hrow hm hrl ⊢
  obtain ⟨V, hV⟩ : ∃ V, V = (W.alloc (.cells #[.slice Am n cm, .slice Ac m cc] 31)).alloc (.cells #[.slice none 0 0, .slice none 0 0] 31) := ⟨_, rfl⟩
  obtain ⟨V1, hV1⟩ : ∃ V1, V1 = V.alloc (.cells #[.slice none 0 0, .slice none 0 0] 31) := ⟨_, rfl⟩
  have hb : Below W.heap.size W V := by rw [hV]; exact ((Below.refl _ W).alloc (Nat.le_refl _) _).alloc (by simp) _
  have hzV : V.heap.size = W.heap.size + 1 + 1 := by rw [hV]; simp
  have hx : V.heap[W.heap.size]? = some (.cells #[.slice Am n cm, .slice Ac m cc] 31 (0, 0)) := by rw [hV]; exact (heap_alloc_old _ _ (by simp)).trans (heap_alloc_new W _)
  have hxr : V.heap[W.heap.size + 1]? = some (.cells #[.slice none 0 0, .slice none 0 0] 31 (0, 0)) := by
    rw [hV]; have := heap_alloc_new (W.alloc (.cells #[.slice Am n cm, .slice Ac m cc] 31)) (.cells #[.slice none 0 0, .slice none 0 0] 31); simpa using this
  have HKP := Lib.hid (show CdA V V1 [] [] [] (.slice none 0 0) (.slice none 0 0) by
    rw [hV1]
    exact ⟨(Below.refl _ V).alloc (Nat.le_refl _) _, heap_alloc_new V _, CpAt.nil _ _⟩)
  have HMS := Lib.hid (RowAt.under hms hb)
  have HRO := Lib.hid (RowAt.under hrow hb)
  have HAL := Lib.hid hall
  have HX := Lib.hid hx
  have HXR := Lib.hid hxr
  have HV := Lib.hid hV
  have HV1 := Lib.hid hV1
  have HB := Lib.hid hb
  have HNN := Lib.hid hnn
  have HMM := Lib.hid hmm
  have HRL := Lib.hid hrl
  have HZV := Lib.hid hzV
  have HST := Lib.hid hst
  clear h hms hrow hall hrl hb hx hV hV1 hnn hmm hzV hxr hst
  go_enter Tryz.func65, Tryz.ntmps65
  go_upto_region 2 with fail
  rw [← HV.out, ← HV1.out]
  go_wp2_with fail
  go_loopw [6] (fun x wr => ∃ (k : Nat) (vm : Value), k ≤ n ∧ x = .int .i64 k ∧ CdA V wr (keepM wo (r.ms.take k)) [] [] vm (.slice none 0 0)) (fun x _ => n - (intOf x).toNat)
  case atStart => exact ⟨0, _, Nat.zero_le _, rfl, HKP.out⟩
  case round =>
    obtain ⟨k, vm, hk, rfl, hkp⟩ := hrel
    have HK := Lib.hid hkp
    have hxk := (hkp.bel.block _ (by rw [HZV.out]; omega)).trans HX.out
    have x0 := cell_of_row _ _ 0 _ _ (0, 0) hxk
    have x1 := cell_of_row _ _ 1 _ _ (0, 0) hxk
    clear hkp
    by_cases hlt : k < n
    · have hlt2 : (k : Int) < (n : Int) := by omega
      have hkl : k < r.ms.length := by rw [← HNN.out]; exact hlt
      obtain ⟨A1, c1, rfl⟩ := Gn.slice_of HK.out.cp.rm
      obtain ⟨acc, hacc⟩ : ∃ a, a = keepM wo (r.ms.take k) := ⟨_, rfl⟩
      obtain ⟨nl, hnl⟩ : ∃ n, n = acc.length := ⟨_, rfl⟩
      have hnlk : nl ≤ k := by rw [hnl, hacc]; exact keep_len _ _ _
      rw [← hacc, ← hnl] at HK
      obtain ⟨A5, c5, b5, h5, _, _, h5c, h5d⟩ := HMS.out
      rw [← HNN.out] at h5 h5c
      injection h5 with h5 _ h5k
      subst h5
      subst h5k
      obtain ⟨rfl, hb5, _⟩ := h5c (by omega)
      obtain ⟨x, hx⟩ : ∃ x, x = r.ms[k] := ⟨_, rfl⟩
      have k0 := h5d k hkl 0 _ rfl
      have k1 := h5d k hkl 1 _ rfl
      have k2 := h5d k hkl 2 _ rfl
      rw [← hx] at k0 k1 k2
      rw [Nat.add_zero] at k0
      have hsn := keep_snoc (fun m : Mem => keepB wo m.name) r.ms k hkl
      rw [← hx] at hsn
      obtain ⟨nm, ro, qu⟩ := x
      dsimp only at k0 k1 k2 hsn
      obtain ⟨kb, hkb⟩ : ∃ b, b = keepB wo nm := ⟨_, rfl⟩
      rw [← hkb] at hsn
      have HNX := Lib.hid (show keepM wo (r.ms.take (k + 1)) = acc ++ if kb = true then [⟨nm, ro, qu⟩] else [] by rw [hacc]; exact hsn)
      have HKB := Lib.hid hkb
      have HNL := Lib.hid hnl.symm
      have HSQ := Lib.hid (fun (w' : World) (b : Below V.heap.size V w') => show (fun w' : World => w'.cell? ⟨W.heap.size, 0, none⟩ = some (.slice (some ⟨b5, 0, none⟩) n cm) ∧ w'.cell? ⟨b5, k * 3, none⟩ = some (.string nm) ∧ w'.cell? ⟨b5, k * 3 + 1, none⟩ = some (.int .i64 ro) ∧ w'.cell? ⟨b5, k * 3 + 2, none⟩ = some (.int .i64 qu)) w' from ⟨cell_of_row _ _ 0 _ _ (0, 0) ((b.block _ (by rw [HZV.out]; omega)).trans HX.out), (b.cell (p := ⟨b5, k * 3, none⟩) hb5).trans k0, (b.cell (p := ⟨b5, k * 3 + 1, none⟩) hb5).trans k1, (b.cell (p := ⟨b5, k * 3 + 2, none⟩) hb5).trans k2⟩)
      have HK0 := Lib.hid (HK.out.under (Gn.below_drew (Below.refl _ _)))
      have HK1 := Lib.hid (HK0.out.under ((Below.refl _ _).alloc (Nat.le_refl _) (.cells #[.string nm, .int .i64 ro, .int .i64 qu] 48)))
      have hw1 : IntKind.i64.wrap ((k : Int) + 1) = ((k + 1 : Nat) : Int) := IntWalk.i64_in _ (by omega)
      have y0 := (HSQ.out _ HK.out.bel).2.1
      clear k0 k1 k2 hx h5d hb5 h5c hxk hacc hnl hsn hkb
      go_upto_region 5 with fail
      go_cut [28] from 17 to 27 (fun s wx => s = .bool kb ∧ wr = wx)
      case first =>
        rcases HWO.out with hw | ⟨e0, e0', hne⟩
        · have HF := Lib.hid (show kb = true by rw [HKB.out]; unfold keepB; rw [decide_eq_true hw]; rfl)
          subst hw
          go_wp2_with fail
          go_meet
          case rel => exact ⟨by rw [HF.out], rfl⟩
        · by_cases hq : nm = wo
          · have HF := Lib.hid (show kb = false by rw [HKB.out]; unfold keepB; rw [decide_eq_false hne, decide_eq_false (fun h => h hq)]; rfl)
            have e1 : (nm.toList == wo.toList) = true := by rw [HEQ.out, decide_eq_true hq]
            have e2 : (nm.toList != wo.toList) = false := by rw [bne, e1]; rfl
            clear hne hq
            go_wp2_with fail
            go_meet
            case rel => exact ⟨by rw [HF.out], rfl⟩
          · have HF := Lib.hid (show kb = true by rw [HKB.out]; unfold keepB; rw [decide_eq_true hq, Bool.or_true])
            have e1 : (nm.toList == wo.toList) = false := by rw [HEQ.out, decide_eq_false hq]
            have e2 : (nm.toList != wo.toList) = true := by rw [bne, e1]; rfl
            clear hne hq
            go_wp2_with fail
            go_meet
            case rel => exact ⟨by rw [HF.out], rfl⟩
      case rest =>
        obtain ⟨rfl, rfl⟩ := hcut
        cases kb with
        | false =>
          go_wp2_with fail
          go_roundw
          case rel => exact ⟨k + 1, _, by omega, by go_num, by rw [HNX.out, if_neg (by decide), List.append_nil]; exact HK.out⟩
          case measure => simp [intOf]; omega
        | true =>
          rw [if_pos rfl] at HNX
          go_upto_region 6 with fail
          clear x0 x1 y0
          refine wp_region_noPanic ?_
          refine wp_region_held_drew (S := (fun w' : World => w'.cell? ⟨W.heap.size, 0, none⟩ = some (.slice (some ⟨b5, 0, none⟩) n cm) ∧ w'.cell? ⟨b5, k * 3, none⟩ = some (.string nm) ∧ w'.cell? ⟨b5, k * 3 + 1, none⟩ = some (.int .i64 ro) ∧ w'.cell? ⟨b5, k * 3 + 2, none⟩ = some (.int .i64 qu))) (by kernel_rfl) ?_ (fun hHeld => ?_)
          · exact HSQ.out _ (Gn.below_drew HK.out.bel)
          refine wpAnyH_take (i := 0) (v := ?_) rfl (by kernel_rfl) (by kernel_rfl) (by kernel_rfl) (fun _ _ _ h => h) (Or.inl ⟨by rfl, ?_⟩) (by assumption) ?_
          rotate_left
          · intro w hSw
            try dsimp only at hSw
            go_simp
            try with_reducible rfl
          try simp only [Act.put, List.setIfInBounds_toArray, List.set_cons_zero, List.set_cons_succ]
          refine wpAnyH_take (i := 2) (v := ?_) rfl (by kernel_rfl) (by kernel_rfl) (by kernel_rfl) (fun _ _ _ h => h) (Or.inl ⟨by rfl, ?_⟩) (by assumption) ?_
          rotate_left
          · intro w hSw
            try dsimp only at hSw
            go_simp
            try with_reducible rfl
          try simp only [Act.put, List.setIfInBounds_toArray, List.set_cons_zero, List.set_cons_succ]
          refine wpAnyH_take (i := 3) (v := ?_) rfl (by kernel_rfl) (by kernel_rfl) (by kernel_rfl) (fun _ _ _ h => h) (Or.inl ⟨by rfl, ?_⟩) (by assumption) ?_
          rotate_left
          · intro w hSw
            try dsimp only at hSw
            go_simp
            try with_reducible rfl
          try simp only [Act.put, List.setIfInBounds_toArray, List.set_cons_zero, List.set_cons_succ]
          refine wpAnyH_take (i := 4) (v := ?_) rfl (by kernel_rfl) (by kernel_rfl) (by kernel_rfl) (fun _ _ _ h => h) (Or.inl ⟨by rfl, ?_⟩) (by assumption) ?_
          rotate_left
          · intro w hSw
            try dsimp only at hSw
            go_simp
            try with_reducible rfl
          try simp only [Act.put, List.setIfInBounds_toArray, List.set_cons_zero, List.set_cons_succ]
          refine wpAnyH_take (i := 5) (v := ?_) rfl (by kernel_rfl) (by kernel_rfl) (by kernel_rfl) (fun _ _ _ h => h) (Or.inl ⟨by rfl, ?_⟩) (by assumption) ?_
          rotate_left
          · intro w hSw
            try dsimp only at hSw
            go_simp
            try with_reducible rfl
          try simp only [Act.put, List.setIfInBounds_toArray, List.set_cons_zero, List.set_cons_succ]
          refine wpAnyH_take (i := 6) (v := ?_) rfl (by kernel_rfl) (by kernel_rfl) (by kernel_rfl) (fun _ _ _ h => h) (Or.inl ⟨by rfl, ?_⟩) (by assumption) ?_
          rotate_left
          · intro w hSw
            try dsimp only at hSw
            go_simp
            try with_reducible rfl
          try simp only [Act.put, List.setIfInBounds_toArray, List.set_cons_zero, List.set_cons_succ]
          refine wpAnyH_ready (rs := [1, 7]) (by kernel_rfl) (by simp) ?_
          refine AllReadyH.cons rfl (fun K hK => ?_) ?_
          · have bx := cell_of_row _ _ 0 _ _ (0, 0) HK0.out.box
            rw [HZV.out] at bx
            go_simp
            refine hK.out _ _ (HSQ.out _ HK0.out.bel) (fun hHeld => ?_)
            clear hK K
            try simp only [Act.put, List.setIfInBounds_toArray, List.set_cons_zero, List.set_cons_succ]
            refine wpAnyH_ready (rs := [7]) (by kernel_rfl) (by simp) ?_
            refine AllReadyH.cons rfl (fun K hK => ?_) AllReadyH.nil
            go_simp
            refine hK.out _ _ (HSQ.out _ HK1.out.bel) (fun hHeld => ?_)
            clear hK K
            try simp only [Act.put, List.setIfInBounds_toArray, List.set_cons_zero, List.set_cons_succ]
            refine wpAnyH_ready (rs := [8]) (by kernel_rfl) (by simp) ?_
            refine AllReadyH.cons rfl (fun K hK => ?_) AllReadyH.nil
            refine step_append3 _ (by rfl) (.tmp 30) (.tmp 36) 28 48 (by rfl) i0 _ 32 Tryz.underlying28 hi0 hz0 hz1 hz2 rfl (V.heap.size + 1) (.slice A1 nl c1) nl (cellsOf encM acc) (by simp [Act.eval]) (by have := HK1.out.cp.rm; rwa [HNL.out] at this) ⟨wr.heap.size, 0, none⟩ 1 (by simp [Act.eval]) (encM ⟨nm, ro, qu⟩) rfl (Gn.row_new wr.drew (encM ⟨nm, ro, qu⟩) 48 wr.heap.size rfl) (encM_one _) (by unfold maxLen; omega) (by omega) (by simp; have := Gn.heap_lt HK0.out.box; simp at this; omega) ?_
            intro v9 w9 ho9 hg9
            have h9 := HK1.out.snocM (m := ⟨nm, ro, qu⟩) (by rw [HNL.out]; exact ho9) hg9
            rw [HZV.out] at h9
            have HG9 := Lib.hid h9
            have HB9 := Lib.hid (HK1.out.grown HK1.out.cp.rm hg9)
            obtain ⟨A9, c9, rfl⟩ := Gn.slice_of ho9
            have b0 := cell_of_row _ _ 0 _ _ (0, 0) HB9.out.2
            have f0 := Gn.frozen_row HB9.out.2 0
            rw [HZV.out] at b0 f0
            clear ho9 hg9 h9
            refine hK.out _ _ (HSQ.out _ HB9.out.1) (fun hHeld => ?_)
            clear hK K
            try simp only [Act.put, List.setIfInBounds_toArray, List.set_cons_zero, List.set_cons_succ]
            refine wpAnyH_take (i := 9) (v := ?_) rfl (by kernel_rfl) (by kernel_rfl) (by kernel_rfl) (fun _ _ _ h => h) (Or.inl ⟨by rfl, ?_⟩) (by assumption) ?_
            rotate_left
            · intro w hSw
              try dsimp only at hSw
              go_simp
              try with_reducible rfl
            try simp only [Act.put, List.setIfInBounds_toArray, List.set_cons_zero, List.set_cons_succ]
            refine wpAnyH_ready (rs := [10]) (by kernel_rfl) (by simp) ?_
            refine AllReadyH.cons rfl (fun K hK => ?_) AllReadyH.nil
            go_simp
            refine hK.out _ _ (HSQ.out _ HG9.out.bel) (fun hHeld => ?_)
            clear hK K
            try simp only [Act.put, List.setIfInBounds_toArray, List.set_cons_zero, List.set_cons_succ]
            refine wpAnyH_done (by kernel_rfl) ?_ _
            refine NoPanic.normal ?_
            go_wp2_with fail
            go_roundw
            case rel => exact ⟨k + 1, _, by omega, by go_num, by rw [HNX.out]; exact HG9.out⟩
            case measure => simp [intOf]; omega
          refine AllReadyH.cons rfl (fun K hK => ?_) AllReadyH.nil
          · go_simp
            refine hK.out _ _ (HSQ.out _ HK1.out.bel) (fun hHeld => ?_)
            clear hK K
            try simp only [Act.put, List.setIfInBounds_toArray, List.set_cons_zero, List.set_cons_succ]
            refine wpAnyH_ready (rs := [1]) (by kernel_rfl) (by simp) ?_
            refine AllReadyH.cons rfl (fun K hK => ?_) AllReadyH.nil
            have bx := cell_of_row _ _ 0 _ _ (0, 0) HK1.out.box
            rw [HZV.out] at bx
            have bx2 : (wr.alloc (.cells #[.string nm, .int .i64 ro, .int .i64 qu] 48)).cell? ⟨W.heap.size + 1 + 1, 0, none⟩ = some _ := bx
            go_simp
            refine hK.out _ _ (HSQ.out _ HK1.out.bel) (fun hHeld => ?_)
            clear hK K
            try simp only [Act.put, List.setIfInBounds_toArray, List.set_cons_zero, List.set_cons_succ]
            refine wpAnyH_ready (rs := [8]) (by kernel_rfl) (by simp) ?_
            refine AllReadyH.cons rfl (fun K hK => ?_) AllReadyH.nil
            refine step_append3 _ (by rfl) (.tmp 30) (.tmp 36) 28 48 (by rfl) i0 _ 32 Tryz.underlying28 hi0 hz0 hz1 hz2 rfl (V.heap.size + 1) (.slice A1 nl c1) nl (cellsOf encM acc) (by simp [Act.eval]) (by have := HK1.out.cp.rm; rwa [HNL.out] at this) ⟨wr.heap.size, 0, none⟩ 1 (by simp [Act.eval]) (encM ⟨nm, ro, qu⟩) rfl (Gn.row_new wr.drew (encM ⟨nm, ro, qu⟩) 48 wr.heap.size rfl) (encM_one _) (by unfold maxLen; omega) (by omega) (by simp; have := Gn.heap_lt HK0.out.box; simp at this; omega) ?_
            intro v9 w9 ho9 hg9
            have h9 := HK1.out.snocM (m := ⟨nm, ro, qu⟩) (by rw [HNL.out]; exact ho9) hg9
            rw [HZV.out] at h9
            have HG9 := Lib.hid h9
            have HB9 := Lib.hid (HK1.out.grown HK1.out.cp.rm hg9)
            obtain ⟨A9, c9, rfl⟩ := Gn.slice_of ho9
            have b0 := cell_of_row _ _ 0 _ _ (0, 0) HB9.out.2
            have f0 := Gn.frozen_row HB9.out.2 0
            rw [HZV.out] at b0 f0
            clear ho9 hg9 h9
            refine hK.out _ _ (HSQ.out _ HB9.out.1) (fun hHeld => ?_)
            clear hK K
            try simp only [Act.put, List.setIfInBounds_toArray, List.set_cons_zero, List.set_cons_succ]
            refine wpAnyH_take (i := 9) (v := ?_) rfl (by kernel_rfl) (by kernel_rfl) (by kernel_rfl) (fun _ _ _ h => h) (Or.inl ⟨by rfl, ?_⟩) (by assumption) ?_
            rotate_left
            · intro w hSw
              try dsimp only at hSw
              go_simp
              try with_reducible rfl
            try simp only [Act.put, List.setIfInBounds_toArray, List.set_cons_zero, List.set_cons_succ]
            refine wpAnyH_ready (rs := [10]) (by kernel_rfl) (by simp) ?_
            refine AllReadyH.cons rfl (fun K hK => ?_) AllReadyH.nil
            go_simp
            refine hK.out _ _ (HSQ.out _ HG9.out.bel) (fun hHeld => ?_)
            clear hK K
            try simp only [Act.put, List.setIfInBounds_toArray, List.set_cons_zero, List.set_cons_succ]
            refine wpAnyH_done (by kernel_rfl) ?_ _
            refine NoPanic.normal ?_
            go_wp2_with fail
            go_roundw
            case rel => exact ⟨k + 1, _, by omega, by go_num, by rw [HNX.out]; exact HG9.out⟩
            case measure => simp [intOf]; omega
    · have hlt2 : ¬ (k : Int) < (n : Int) := by omega
      have hke : n = k := by omega
      subst hke
      have HKE := Lib.hid (show keepM wo (r.ms.take n) = keepM wo r.ms by rw [HNN.out, List.take_length])
      rw [HKE.out] at HK
      obtain ⟨A1z, c1z, rfl⟩ := Gn.slice_of HK.out.cp.rm
      obtain ⟨km, hkm⟩ : ∃ k, k = keepM wo r.ms := ⟨_, rfl⟩
      obtain ⟨nz, hnz⟩ : ∃ n, n = km.length := ⟨_, rfl⟩
      rw [← hkm, ← hnz] at HK
      have HKM := Lib.hid hkm
      have HNZ := Lib.hid hnz
      clear hkm hnz
      go_wp2_with fail
      clear x0 x1 hxk
      go_loopw [7] (fun x wq => ∃ (k : Nat) (raw2 : List CRaw) (vc : Value), k ≤ m ∧ x = .int .i64 k ∧ CdA V wq km ((r.cs.take k).map (keepC wo)) raw2 (.slice A1z nz c1z) vc) (fun x _ => m - (intOf x).toNat)
      case atStart => exact ⟨0, [], _, Nat.zero_le _, rfl, HK.out⟩
      case round =>
        obtain ⟨k, raw2, vc, hk2, rfl, hkp⟩ := hrel
        have HK := Lib.hid hkp
        have hxk := (hkp.bel.block _ (by rw [HZV.out]; omega)).trans HX.out
        have x0 := cell_of_row _ _ 0 _ _ (0, 0) hxk
        have x1 := cell_of_row _ _ 1 _ _ (0, 0) hxk
        clear hkp
        by_cases hlt : k < m
        · have hlt2 : (k : Int) < (m : Int) := by omega
          have hkl : k < raws.length := by rw [HRL.out]; exact hlt
          have hkc : k < r.cs.length := by rw [← HMM.out]; exact hlt
          obtain ⟨A2, c2, rfl⟩ := Gn.slice_of HK.out.cp.rc
          obtain ⟨cl, hcl⟩ : ∃ c, c = (r.cs.take k).map (keepC wo) := ⟨_, rfl⟩
          have hclk : cl.length = k := by rw [hcl, List.length_map, List.length_take]; omega
          rw [← hcl, hclk] at HK
          obtain ⟨A5, c5, b5, h5, _, _, h5c, h5d⟩ := HRO.out
          rw [HRL.out] at h5 h5c
          injection h5 with h5 _ h5k
          subst h5
          subst h5k
          obtain ⟨rfl, hb5, _⟩ := h5c (by omega)
          obtain ⟨x, hx⟩ : ∃ x, x = raws[k] := ⟨_, rfl⟩
          obtain ⟨d, hd⟩ : ∃ d, d = r.cs[k] := ⟨_, rfl⟩
          obtain ⟨en, et, A7, c7, b7, h7, _, h7c, h7d⟩ := HAL.out.2 k hkl hkc
          have hstl := HST.out _ (List.getElem_mem hkc)
          rw [← hd] at en et h7 h7c h7d hstl
          obtain ⟨dn, dt, ss⟩ := d
          dsimp only at en et h7 h7c h7d hstl
          obtain ⟨sl, hsl⟩ : ∃ sl, sl = ss.length := ⟨_, rfl⟩
          rw [← hsl] at h7 h7c hstl
          have k0 := h5d k hkl 0 _ rfl
          have k1 := h5d k hkl 1 _ rfl
          have k2 := h5d k hkl 2 _ rfl
          rw [← hx] at k0 k1 k2 h7 en et
          rw [Nat.add_zero] at k0
          obtain ⟨cn, ct, csv⟩ := x
          dsimp only at k0 k1 k2 h7 en et
          subst h7
          subst en
          subst et
          have HDN := Lib.hid (show (r.cs.take (k + 1)).map (keepC wo) = cl ++ [⟨cn, ct, keepS wo ss⟩] by
            rw [List.take_succ_eq_append_getElem hkc, List.map_append, ← hcl, ← hd]; rfl)
          have HCK := Lib.hid hclk
          have HSL := Lib.hid hsl
          have H7C := Lib.hid h7c
          have H7D := Lib.hid h7d
          have HVC := Lib.hid (fun (w' : World) (b : Below V.heap.size V w') => (⟨cell_of_row _ _ 1 _ _ (0, 0) ((b.block _ (by rw [HZV.out]; omega)).trans HX.out), (b.cell (p := ⟨b5, k * 3, none⟩) hb5).trans k0, (b.cell (p := ⟨b5, k * 3 + 1, none⟩) hb5).trans k1, (b.cell (p := ⟨b5, k * 3 + 2, none⟩) hb5).trans k2⟩ : w'.cell? ⟨W.heap.size, 1, none⟩ = some (.slice (some ⟨b5, 0, none⟩) m cc) ∧ w'.cell? ⟨b5, k * 3, none⟩ = some (.string cn) ∧ w'.cell? ⟨b5, k * 3 + 1, none⟩ = some (.string ct) ∧ w'.cell? ⟨b5, k * 3 + 2, none⟩ = some (.slice A7 sl c7)))
          have HWK := Lib.hid HK.out.bel
          have HSQ2 := Lib.hid (fun (w' : World) (b : Below wr.heap.size wr w') => show (fun w' : World => w'.cell? ⟨W.heap.size, 1, none⟩ = some (.slice (some ⟨b5, 0, none⟩) m cc) ∧ w'.cell? ⟨b5, k * 3, none⟩ = some (.string cn) ∧ w'.cell? ⟨b5, k * 3 + 1, none⟩ = some (.string ct)) w' from ⟨(HVC.out w' (HWK.out.trans (b.mono HWK.out.size))).1, (HVC.out w' (HWK.out.trans (b.mono HWK.out.size))).2.1, (HVC.out w' (HWK.out.trans (b.mono HWK.out.size))).2.2.1⟩)
          clear k0 k1 k2 hx h5d hb5 h5c hxk hcl hclk hd hsl h7c h7d
          go_upto_region 10 with fail
          clear x0 x1
          go_cut [8] from 46 to 58 (fun s wx => ∃ q : Nat, s = .pointer (some ⟨q, 0, none⟩) ∧ q = wr.heap.size ∧ (wr.alloc (.cells #[.string cn, .string ct, .slice none 0 0] 57)).drew = wx)
          case first =>
            refine wp_region_noPanic ?_
            refine wp_region_held_drew (S := (fun w' : World => w'.cell? ⟨W.heap.size, 1, none⟩ = some (.slice (some ⟨b5, 0, none⟩) m cc) ∧ w'.cell? ⟨b5, k * 3, none⟩ = some (.string cn) ∧ w'.cell? ⟨b5, k * 3 + 1, none⟩ = some (.string ct))) (by kernel_rfl) ?_ (fun hHeld => ?_)
            · exact HSQ2.out _ (Gn.below_drew (Below.refl _ _))
            refine wpAnyH_take (i := 0) (v := ?_) rfl (by kernel_rfl) (by kernel_rfl) (by kernel_rfl) (fun _ _ _ h => h) (Or.inl ⟨by rfl, ?_⟩) (by assumption) ?_
            rotate_left
            · intro w hSw
              try dsimp only at hSw
              go_simp
              try with_reducible rfl
            try simp only [Act.put, List.setIfInBounds_toArray, List.set_cons_zero, List.set_cons_succ]
            refine wpAnyH_take (i := 1) (v := ?_) rfl (by kernel_rfl) (by kernel_rfl) (by kernel_rfl) (fun _ _ _ h => h) (Or.inl ⟨by rfl, ?_⟩) (by assumption) ?_
            rotate_left
            · intro w hSw
              try dsimp only at hSw
              go_simp
              try with_reducible rfl
            try simp only [Act.put, List.setIfInBounds_toArray, List.set_cons_zero, List.set_cons_succ]
            refine wpAnyH_take (i := 2) (v := ?_) rfl (by kernel_rfl) (by kernel_rfl) (by kernel_rfl) (fun _ _ _ h => h) (Or.inl ⟨by rfl, ?_⟩) (by assumption) ?_
            rotate_left
            · intro w hSw
              try dsimp only at hSw
              go_simp
              try with_reducible rfl
            try simp only [Act.put, List.setIfInBounds_toArray, List.set_cons_zero, List.set_cons_succ]
            refine wpAnyH_take (i := 3) (v := ?_) rfl (by kernel_rfl) (by kernel_rfl) (by kernel_rfl) (fun _ _ _ h => h) (Or.inl ⟨by rfl, ?_⟩) (by assumption) ?_
            rotate_left
            · intro w hSw
              try dsimp only at hSw
              go_simp
              try with_reducible rfl
            try simp only [Act.put, List.setIfInBounds_toArray, List.set_cons_zero, List.set_cons_succ]
            refine wpAnyH_take (i := 4) (v := ?_) rfl (by kernel_rfl) (by kernel_rfl) (by kernel_rfl) (fun _ _ _ h => h) (Or.inl ⟨by rfl, ?_⟩) (by assumption) ?_
            rotate_left
            · intro w hSw
              try dsimp only at hSw
              go_simp
              try with_reducible rfl
            try simp only [Act.put, List.setIfInBounds_toArray, List.set_cons_zero, List.set_cons_succ]
            refine wpAnyH_take (i := 5) (v := ?_) rfl (by kernel_rfl) (by kernel_rfl) (by kernel_rfl) (fun _ _ _ h => h) (Or.inl ⟨by rfl, ?_⟩) (by assumption) ?_
            rotate_left
            · intro w hSw
              try dsimp only at hSw
              go_simp
              try with_reducible rfl
            try simp only [Act.put, List.setIfInBounds_toArray, List.set_cons_zero, List.set_cons_succ]
            refine wpAnyH_take (i := 6) (v := ?_) rfl (by kernel_rfl) (by kernel_rfl) (by kernel_rfl) (fun _ _ _ h => h) (Or.inl ⟨by rfl, ?_⟩) (by assumption) ?_
            rotate_left
            · intro w hSw
              try dsimp only at hSw
              go_simp
              try with_reducible rfl
            try simp only [Act.put, List.setIfInBounds_toArray, List.set_cons_zero, List.set_cons_succ]
            refine wpAnyH_take (i := 7) (v := ?_) rfl (by kernel_rfl) (by kernel_rfl) (by kernel_rfl) (fun _ _ _ h => h) (Or.inl ⟨by rfl, ?_⟩) (by assumption) ?_
            rotate_left
            · intro w hSw
              try dsimp only at hSw
              go_simp
              try with_reducible rfl
            try simp only [Act.put, List.setIfInBounds_toArray, List.set_cons_zero, List.set_cons_succ]
            refine wpAnyH_take (i := 8) (v := ?_) rfl (by kernel_rfl) (by kernel_rfl) (by kernel_rfl) (fun _ _ _ h => h) (Or.inl ⟨by rfl, ?_⟩) (by assumption) ?_
            rotate_left
            · intro w hSw
              try dsimp only at hSw
              go_simp
              try with_reducible rfl
            try simp only [Act.put, List.setIfInBounds_toArray, List.set_cons_zero, List.set_cons_succ]
            refine wpAnyH_take (i := 9) (v := ?_) rfl (by kernel_rfl) (by kernel_rfl) (by kernel_rfl) (fun _ _ _ h => h) (Or.inl ⟨by rfl, ?_⟩) (by assumption) ?_
            rotate_left
            · intro w hSw
              try dsimp only at hSw
              go_simp
              try with_reducible rfl
            try simp only [Act.put, List.setIfInBounds_toArray, List.set_cons_zero, List.set_cons_succ]
            refine wpAnyH_take (i := 10) (v := ?_) rfl (by kernel_rfl) (by kernel_rfl) (by kernel_rfl) (fun _ _ _ h => h) (Or.inl ⟨by rfl, ?_⟩) (by assumption) ?_
            rotate_left
            · intro w hSw
              try dsimp only at hSw
              go_simp
              try with_reducible rfl
            try simp only [Act.put, List.setIfInBounds_toArray, List.set_cons_zero, List.set_cons_succ]
            refine wpAnyH_take (i := 11) (v := ?_) rfl (by kernel_rfl) (by kernel_rfl) (by kernel_rfl) (fun _ _ _ h => h) (Or.inl ⟨by rfl, ?_⟩) (by assumption) ?_
            rotate_left
            · intro w hSw
              try dsimp only at hSw
              go_simp
              try with_reducible rfl
            try simp only [Act.put, List.setIfInBounds_toArray, List.set_cons_zero, List.set_cons_succ]
            refine wpAnyH_take (i := 12) (v := ?_) rfl (by kernel_rfl) (by kernel_rfl) (by kernel_rfl) (fun _ _ _ h => h) (Or.inl ⟨by rfl, ?_⟩) (by assumption) ?_
            rotate_left
            · intro w hSw
              try dsimp only at hSw
              go_simp
              try with_reducible rfl
            try simp only [Act.put, List.setIfInBounds_toArray, List.set_cons_zero, List.set_cons_succ]
            refine wpAnyH_ready (rs := [13]) (by kernel_rfl) (by simp) ?_
            refine AllReadyH.cons rfl (fun K hK => ?_) AllReadyH.nil
            go_simp
            refine hK.out _ _ (HSQ2.out _ ((Gn.below_drew (Below.refl _ _)).trans (((Below.refl _ _).alloc (Nat.le_refl _) _).mono (Nat.le_refl _)))) (fun hHeld => ?_)
            clear hK K
            try simp only [Act.put, List.setIfInBounds_toArray, List.set_cons_zero, List.set_cons_succ]
            refine wpAnyH_ready (rs := [14]) (by kernel_rfl) (by simp) ?_
            refine AllReadyH.cons rfl (fun K hK => ?_) AllReadyH.nil
            go_simp
            refine hK.out _ _ (HSQ2.out _ ((Gn.below_drew (Below.refl _ _)).trans (((Below.refl _ _).alloc (Nat.le_refl _) _).mono (Nat.le_refl _)))) (fun hHeld => ?_)
            clear hK K
            try simp only [Act.put, List.setIfInBounds_toArray, List.set_cons_zero, List.set_cons_succ]
            refine wpAnyH_done (by kernel_rfl) ?_ _
            refine NoPanic.normal ?_
            go_wp2_with fail
            go_meet
            case rel => exact ⟨_, rfl, rfl, rfl⟩
          case rest =>
            obtain ⟨q, rfl, hq, hwc⟩ := hcut
            obtain ⟨M, hM⟩ : ∃ M, M = wc := ⟨_, rfl⟩
            rw [← hM]
            rw [← hM] at hwc
            have hbM : Below wr.heap.size wr M := by rw [← hwc]; exact Gn.below_drew ((Below.refl _ _).alloc (Nat.le_refl _) _)
            have HCB := Lib.hid (show M.heap[q]? = some (.cells #[.string cn, .string ct, .slice none 0 0] 57 (0, 0)) by rw [← hwc, hq]; exact heap_alloc_new wr _)
            have HLQ := Lib.hid (show LtQ q raw2 (.slice A1z nz c1z) (.slice A2 k c2) by rw [hq]; exact HK.out.cp.ltq)
            have HVQ := Lib.hid (show V.heap.size < q by rw [hq]; exact Gn.heap_lt HK.out.box)
            have HKM2 := Lib.hid (HK.out.under hbM)
            have HMC := Lib.hid (fun (w' : World) (b : Below q M w') => HVC.out w' (HKM2.out.bel.trans (b.mono (by have := HVQ.out; omega))))
            clear hq hwc hM hbM HSQ2
            obtain ⟨wo1, hwo1⟩ : ∃ w, w = wr := ⟨_, rfl⟩
            clear hwo1
            go_upto_block 4 with fail
            go_cut [9] (fun _ wx => ∃ sv : Value, Below q M wx ∧ wx.heap[q]? = some (.cells #[.string cn, .string ct, sv] 57 (0, 0)) ∧ wx.ownsRow (q + 1) 9 1 sv (keepS wo ss).length ((keepS wo ss).map Value.string))
            case first =>
              go_wp2_with fail
              go_loopw [9] (fun x wz => ∃ (z : Nat) (sv : Value), z ≤ sl ∧ x = .int .i64 z ∧ Below q M wz ∧ wz.heap[q]? = some (.cells #[.string cn, .string ct, sv] 57 (0, 0)) ∧ wz.ownsRow (q + 1) 9 1 sv (keepS wo (ss.take z)).length ((keepS wo (ss.take z)).map Value.string)) (fun x _ => sl - (intOf x).toNat)
              case atStart => exact ⟨0, _, Nat.zero_le _, rfl, Below.refl _ _, HCB.out, World.ownsRow_nil _ _ _ _⟩
              case round =>
                obtain ⟨z, sv, hz, rfl, hbz, hcz, hoz⟩ := hrel
                have HBZ := Lib.hid hbz
                have HCZ := Lib.hid hcz
                have HOZ := Lib.hid hoz
                obtain ⟨x1, _, _, x2⟩ := HMC.out _ hbz
                clear hbz hcz hoz
                by_cases hzl : z < sl
                · have hzl2 : (z : Int) < (sl : Int) := by omega
                  have hzs : z < ss.length := by rw [← HSL.out]; exact hzl
                  obtain ⟨rfl, hb7, _⟩ := H7C.out (by omega)
                  obtain ⟨A1, c1, rfl⟩ := Gn.slice_of HOZ.out
                  obtain ⟨sn, hsn⟩ : ∃ s, s = ss[z] := ⟨_, rfl⟩
                  have y7 := H7D.out z hzs
                  rw [← hsn] at y7
                  obtain ⟨acc, hacc⟩ : ∃ a, a = keepS wo (ss.take z) := ⟨_, rfl⟩
                  obtain ⟨nl, hnl⟩ : ∃ n, n = acc.length := ⟨_, rfl⟩
                  have hnlk : nl ≤ z := by rw [hnl, hacc]; exact keep_len _ _ _
                  rw [← hacc, ← hnl] at HOZ
                  rw [← hacc, ← hnl] at HCZ
                  have hks := keep_snoc (fun s : ByteArray => keepB wo s) ss z hzs
                  rw [← hsn] at hks
                  obtain ⟨kb, hkb⟩ : ∃ b, b = keepB wo sn := ⟨_, rfl⟩
                  rw [← hkb] at hks
                  have HNX := Lib.hid (show keepS wo (ss.take (z + 1)) = acc ++ if kb = true then [sn] else [] by rw [hacc]; exact hks)
                  have HKB := Lib.hid hkb
                  have HNL := Lib.hid hnl.symm
                  have HSQ := Lib.hid (fun (w' : World) (b : Below q M w') => show (fun w' : World => w'.cell? ⟨W.heap.size, 1, none⟩ = some (.slice (some ⟨b5, 0, none⟩) m cc) ∧ w'.cell? ⟨b5, k * 3 + 2, none⟩ = some (.slice (some ⟨b7, 0, none⟩) sl c7) ∧ w'.cell? ⟨b7, z, none⟩ = some (.string sn)) w' from ⟨(HMC.out w' b).1, (HMC.out w' b).2.2.2, ((HB.out.trans (HKM2.out.bel.mono HB.out.size)).trans (b.mono (by have := HVQ.out; have := HB.out.size; omega)) |>.cell (p := ⟨b7, z, none⟩) hb7).trans y7⟩)
                  have y8 := (HSQ.out _ HBZ.out).2.2
                  have HQ0 := Lib.hid (Gn.below_drew HBZ.out)
                  have HC0 := Lib.hid (show wr.drew.heap[q]? = _ from HCZ.out)
                  have HQ1 := Lib.hid (HQ0.out.alloc (by show q ≤ wr.drew.heap.size; have := Gn.heap_lt HC0.out; omega) (.cells #[.string sn] 9))
                  have HC1 := Lib.hid ((heap_alloc_old wr.drew (.cells #[.string sn] 9) (Gn.heap_lt HC0.out)).trans HC0.out)
                  have HO1 := Lib.hid ((show wr.drew.ownsRow (q + 1) 9 1 (.slice A1 nl c1) nl (acc.map Value.string) from HOZ.out).alloc (.cells #[.string sn] 9))
                  have hw1 : IntKind.i64.wrap ((z : Int) + 1) = ((z + 1 : Nat) : Int) := IntWalk.i64_in _ (by omega)
                  clear hsn y7 hacc hnl hks hkb hb7 hzs
                  go_upto_region 14 with fail
                  go_cut [84] from 70 to 83 (fun s wx => s = .bool kb ∧ wr = wx)
                  case first =>
                    rcases HWO.out with hw | ⟨e0, e0', hne⟩
                    · have HF := Lib.hid (show kb = true by rw [HKB.out]; unfold keepB; rw [decide_eq_true hw]; rfl)
                      subst hw
                      go_wp2_with fail
                      go_meet
                      case rel => exact ⟨by rw [HF.out], rfl⟩
                    · by_cases hq : sn = wo
                      · have HF := Lib.hid (show kb = false by rw [HKB.out]; unfold keepB; rw [decide_eq_false hne, decide_eq_false (fun h => h hq)]; rfl)
                        have e1 : (sn.toList == wo.toList) = true := by rw [HEQ.out, decide_eq_true hq]
                        have e2 : (sn.toList != wo.toList) = false := by rw [bne, e1]; rfl
                        clear hne hq
                        go_wp2_with fail
                        go_meet
                        case rel => exact ⟨by rw [HF.out], rfl⟩
                      · have HF := Lib.hid (show kb = true by rw [HKB.out]; unfold keepB; rw [decide_eq_true hq, Bool.or_true])
                        have e1 : (sn.toList == wo.toList) = false := by rw [HEQ.out, decide_eq_false hq]
                        have e2 : (sn.toList != wo.toList) = true := by rw [bne, e1]; rfl
                        clear hne hq
                        go_wp2_with fail
                        go_meet
                        case rel => exact ⟨by rw [HF.out], rfl⟩
                  case rest =>
                    obtain ⟨rfl, rfl⟩ := hcut
                    cases kb with
                    | false =>
                      go_wp2_with fail
                      go_roundw
                      case rel => exact ⟨z + 1, _, by omega, by go_num, HBZ.out, HCZ.out, by rw [HNX.out, if_neg (by decide), List.append_nil, HNL.out]; exact HOZ.out⟩
                      case measure => simp [intOf]; omega
                    | true =>
                      rw [if_pos rfl] at HNX
                      go_upto_region 15 with fail
                      clear x1 x2 y8
                      refine wp_region_noPanic ?_
                      refine wp_region_held_drew (S := (fun w' : World => w'.cell? ⟨W.heap.size, 1, none⟩ = some (.slice (some ⟨b5, 0, none⟩) m cc) ∧ w'.cell? ⟨b5, k * 3 + 2, none⟩ = some (.slice (some ⟨b7, 0, none⟩) sl c7) ∧ w'.cell? ⟨b7, z, none⟩ = some (.string sn))) (by kernel_rfl) ?_ (fun hHeld => ?_)
                      · exact HSQ.out _ HQ0.out
                      refine wpAnyH_take (i := 0) (v := ?_) rfl (by kernel_rfl) (by kernel_rfl) (by kernel_rfl) (fun _ _ _ h => h) (Or.inl ⟨by rfl, ?_⟩) (by assumption) ?_
                      rotate_left
                      · intro w hSw
                        try dsimp only at hSw
                        go_simp
                        try with_reducible rfl
                      try simp only [Act.put, List.setIfInBounds_toArray, List.set_cons_zero, List.set_cons_succ]
                      refine wpAnyH_take (i := 2) (v := ?_) rfl (by kernel_rfl) (by kernel_rfl) (by kernel_rfl) (fun _ _ _ h => h) (Or.inl ⟨by rfl, ?_⟩) (by assumption) ?_
                      rotate_left
                      · intro w hSw
                        try dsimp only at hSw
                        go_simp
                        try with_reducible rfl
                      try simp only [Act.put, List.setIfInBounds_toArray, List.set_cons_zero, List.set_cons_succ]
                      refine wpAnyH_take (i := 3) (v := ?_) rfl (by kernel_rfl) (by kernel_rfl) (by kernel_rfl) (fun _ _ _ h => h) (Or.inl ⟨by rfl, ?_⟩) (by assumption) ?_
                      rotate_left
                      · intro w hSw
                        try dsimp only at hSw
                        go_simp
                        try with_reducible rfl
                      try simp only [Act.put, List.setIfInBounds_toArray, List.set_cons_zero, List.set_cons_succ]
                      refine wpAnyH_take (i := 4) (v := ?_) rfl (by kernel_rfl) (by kernel_rfl) (by kernel_rfl) (fun _ _ _ h => h) (Or.inl ⟨by rfl, ?_⟩) (by assumption) ?_
                      rotate_left
                      · intro w hSw
                        try dsimp only at hSw
                        go_simp
                        try with_reducible rfl
                      try simp only [Act.put, List.setIfInBounds_toArray, List.set_cons_zero, List.set_cons_succ]
                      refine wpAnyH_take (i := 5) (v := ?_) rfl (by kernel_rfl) (by kernel_rfl) (by kernel_rfl) (fun _ _ _ h => h) (Or.inl ⟨by rfl, ?_⟩) (by assumption) ?_
                      rotate_left
                      · intro w hSw
                        try dsimp only at hSw
                        go_simp
                        try with_reducible rfl
                      try simp only [Act.put, List.setIfInBounds_toArray, List.set_cons_zero, List.set_cons_succ]
                      refine wpAnyH_take (i := 6) (v := ?_) rfl (by kernel_rfl) (by kernel_rfl) (by kernel_rfl) (fun _ _ _ h => h) (Or.inl ⟨by rfl, ?_⟩) (by assumption) ?_
                      rotate_left
                      · intro w hSw
                        try dsimp only at hSw
                        go_simp
                        try with_reducible rfl
                      try simp only [Act.put, List.setIfInBounds_toArray, List.set_cons_zero, List.set_cons_succ]
                      refine wpAnyH_take (i := 7) (v := ?_) rfl (by kernel_rfl) (by kernel_rfl) (by kernel_rfl) (fun _ _ _ h => h) (Or.inl ⟨by rfl, ?_⟩) (by assumption) ?_
                      rotate_left
                      · intro w hSw
                        try dsimp only at hSw
                        go_simp
                        try with_reducible rfl
                      try simp only [Act.put, List.setIfInBounds_toArray, List.set_cons_zero, List.set_cons_succ]
                      refine wpAnyH_take (i := 8) (v := ?_) rfl (by kernel_rfl) (by kernel_rfl) (by kernel_rfl) (fun _ _ _ h => h) (Or.inl ⟨by rfl, ?_⟩) (by assumption) ?_
                      rotate_left
                      · intro w hSw
                        try dsimp only at hSw
                        go_simp
                        try with_reducible rfl
                      try simp only [Act.put, List.setIfInBounds_toArray, List.set_cons_zero, List.set_cons_succ]
                      refine wpAnyH_take (i := 9) (v := ?_) rfl (by kernel_rfl) (by kernel_rfl) (by kernel_rfl) (fun _ _ _ h => h) (Or.inl ⟨by rfl, ?_⟩) (by assumption) ?_
                      rotate_left
                      · intro w hSw
                        try dsimp only at hSw
                        go_simp
                        try with_reducible rfl
                      try simp only [Act.put, List.setIfInBounds_toArray, List.set_cons_zero, List.set_cons_succ]
                      refine wpAnyH_take (i := 10) (v := ?_) rfl (by kernel_rfl) (by kernel_rfl) (by kernel_rfl) (fun _ _ _ h => h) (Or.inl ⟨by rfl, ?_⟩) (by assumption) ?_
                      rotate_left
                      · intro w hSw
                        try dsimp only at hSw
                        go_simp
                        try with_reducible rfl
                      try simp only [Act.put, List.setIfInBounds_toArray, List.set_cons_zero, List.set_cons_succ]
                      refine wpAnyH_ready (rs := [1, 11]) (by kernel_rfl) (by simp) ?_
                      refine AllReadyH.cons rfl (fun K hK => ?_) ?_
                      · have bx := cell_of_row _ _ 2 _ _ (0, 0) HC0.out
                        go_simp
                        refine hK.out _ _ (HSQ.out _ HQ0.out) (fun hHeld => ?_)
                        clear hK K
                        try simp only [Act.put, List.setIfInBounds_toArray, List.set_cons_zero, List.set_cons_succ]
                        refine wpAnyH_ready (rs := [11]) (by kernel_rfl) (by simp) ?_
                        refine AllReadyH.cons rfl (fun K hK => ?_) AllReadyH.nil
                        go_simp
                        refine hK.out _ _ (HSQ.out _ HQ1.out) (fun hHeld => ?_)
                        clear hK K
                        try simp only [Act.put, List.setIfInBounds_toArray, List.set_cons_zero, List.set_cons_succ]
                        refine wpAnyH_ready (rs := [12]) (by kernel_rfl) (by simp) ?_
                        refine AllReadyH.cons rfl (fun K hK => ?_) AllReadyH.nil
                        refine step_append_str _ (by rfl) (.tmp 86) (.tmp 96) (by rfl) (q + 1) (.slice A1 nl c1) nl (acc.map Value.string) (by simp [Act.eval]) HO1.out ⟨wr.heap.size, 0, none⟩ 1 (by simp [Act.eval]) sn (Gn.row_new wr.drew [.string sn] 9 wr.heap.size rfl) (by unfold maxLen; omega) (by omega) (by simp; have := Gn.heap_lt HC0.out; simp at this; omega) ?_
                        intro v9 w9 ho9 hg9
                        have HG9 := Lib.hid (row_grown HQ1.out HC1.out ho9 hg9 (Gn.own_block HO1.out) HNL.out)
                        obtain ⟨A9, c9, rfl⟩ := Gn.slice_of ho9
                        have b0 := cell_of_row _ _ 2 _ _ (0, 0) HG9.out.2.1
                        have f0 := Gn.frozen_row HG9.out.2.1 2
                        clear ho9 hg9
                        refine hK.out _ _ (HSQ.out _ HG9.out.1) (fun hHeld => ?_)
                        clear hK K
                        try simp only [Act.put, List.setIfInBounds_toArray, List.set_cons_zero, List.set_cons_succ]
                        refine wpAnyH_take (i := 13) (v := ?_) rfl (by kernel_rfl) (by kernel_rfl) (by kernel_rfl) (fun _ _ _ h => h) (Or.inl ⟨by rfl, ?_⟩) (by assumption) ?_
                        rotate_left
                        · intro w hSw
                          try dsimp only at hSw
                          go_simp
                          try with_reducible rfl
                        try simp only [Act.put, List.setIfInBounds_toArray, List.set_cons_zero, List.set_cons_succ]
                        refine wpAnyH_ready (rs := [14]) (by kernel_rfl) (by simp) ?_
                        refine AllReadyH.cons rfl (fun K hK => ?_) AllReadyH.nil
                        go_simp
                        refine hK.out _ _ (HSQ.out _ HG9.out.2.2.2.1) (fun hHeld => ?_)
                        clear hK K
                        try simp only [Act.put, List.setIfInBounds_toArray, List.set_cons_zero, List.set_cons_succ]
                        refine wpAnyH_done (by kernel_rfl) ?_ _
                        refine NoPanic.normal ?_
                        go_wp2_with fail
                        go_roundw
                        case rel => exact ⟨z + 1, _, by omega, by go_num, HG9.out.2.2.2.1, HG9.out.2.2.1, by rw [HNX.out]; exact HG9.out.2.2.2.2⟩
                        case measure => simp [intOf]; omega
                      refine AllReadyH.cons rfl (fun K hK => ?_) AllReadyH.nil
                      · go_simp
                        refine hK.out _ _ (HSQ.out _ HQ1.out) (fun hHeld => ?_)
                        clear hK K
                        try simp only [Act.put, List.setIfInBounds_toArray, List.set_cons_zero, List.set_cons_succ]
                        refine wpAnyH_ready (rs := [1]) (by kernel_rfl) (by simp) ?_
                        refine AllReadyH.cons rfl (fun K hK => ?_) AllReadyH.nil
                        have bx := cell_of_row _ _ 2 _ _ (0, 0) HC1.out
                        have bx2 : (wr.alloc (.cells #[.string sn] 9)).cell? ⟨q, 2, none⟩ = some _ := bx
                        go_simp
                        refine hK.out _ _ (HSQ.out _ HQ1.out) (fun hHeld => ?_)
                        clear hK K
                        try simp only [Act.put, List.setIfInBounds_toArray, List.set_cons_zero, List.set_cons_succ]
                        refine wpAnyH_ready (rs := [12]) (by kernel_rfl) (by simp) ?_
                        refine AllReadyH.cons rfl (fun K hK => ?_) AllReadyH.nil
                        refine step_append_str _ (by rfl) (.tmp 86) (.tmp 96) (by rfl) (q + 1) (.slice A1 nl c1) nl (acc.map Value.string) (by simp [Act.eval]) HO1.out ⟨wr.heap.size, 0, none⟩ 1 (by simp [Act.eval]) sn (Gn.row_new wr.drew [.string sn] 9 wr.heap.size rfl) (by unfold maxLen; omega) (by omega) (by simp; have := Gn.heap_lt HC0.out; simp at this; omega) ?_
                        intro v9 w9 ho9 hg9
                        have HG9 := Lib.hid (row_grown HQ1.out HC1.out ho9 hg9 (Gn.own_block HO1.out) HNL.out)
                        obtain ⟨A9, c9, rfl⟩ := Gn.slice_of ho9
                        have b0 := cell_of_row _ _ 2 _ _ (0, 0) HG9.out.2.1
                        have f0 := Gn.frozen_row HG9.out.2.1 2
                        clear ho9 hg9
                        refine hK.out _ _ (HSQ.out _ HG9.out.1) (fun hHeld => ?_)
                        clear hK K
                        try simp only [Act.put, List.setIfInBounds_toArray, List.set_cons_zero, List.set_cons_succ]
                        refine wpAnyH_take (i := 13) (v := ?_) rfl (by kernel_rfl) (by kernel_rfl) (by kernel_rfl) (fun _ _ _ h => h) (Or.inl ⟨by rfl, ?_⟩) (by assumption) ?_
                        rotate_left
                        · intro w hSw
                          try dsimp only at hSw
                          go_simp
                          try with_reducible rfl
                        try simp only [Act.put, List.setIfInBounds_toArray, List.set_cons_zero, List.set_cons_succ]
                        refine wpAnyH_ready (rs := [14]) (by kernel_rfl) (by simp) ?_
                        refine AllReadyH.cons rfl (fun K hK => ?_) AllReadyH.nil
                        go_simp
                        refine hK.out _ _ (HSQ.out _ HG9.out.2.2.2.1) (fun hHeld => ?_)
                        clear hK K
                        try simp only [Act.put, List.setIfInBounds_toArray, List.set_cons_zero, List.set_cons_succ]
                        refine wpAnyH_done (by kernel_rfl) ?_ _
                        refine NoPanic.normal ?_
                        go_wp2_with fail
                        go_roundw
                        case rel => exact ⟨z + 1, _, by omega, by go_num, HG9.out.2.2.2.1, HG9.out.2.2.1, by rw [HNX.out]; exact HG9.out.2.2.2.2⟩
                        case measure => simp [intOf]; omega
                · have hzl2 : ¬ (z : Int) < (sl : Int) := by omega
                  have hze : z = sl := by omega
                  have HE := Lib.hid (show ss.take z = ss by rw [hze, HSL.out, List.take_length])
                  clear hze
                  go_wp2_with fail
                  go_meet
                  case rel => exact ⟨sv, HBZ.out, HCZ.out, by have := HOZ.out; rw [HE.out] at this; exact this⟩
            case rest =>
              obtain ⟨sv, hbw, hcw, how⟩ := hcut
              obtain ⟨M2, hM2⟩ : ∃ M, M = wc := ⟨_, rfl⟩
              rw [← hM2] at hbw hcw how
              rw [← hM2]
              clear hM2
              have HKQ := Lib.hid (HKM2.out.underQ HLQ.out HVQ.out hbw)
              obtain ⟨As, csx, rfl⟩ := Gn.slice_of how
              obtain ⟨ns, hns⟩ : ∃ n, n = (keepS wo ss).length := ⟨_, rfl⟩
              rw [← hns] at hcw how
              have y0 := cell_of_row _ _ 0 _ _ (0, 0) hcw
              have y1 := cell_of_row _ _ 1 _ _ (0, 0) hcw
              have y2 := cell_of_row _ _ 2 _ _ (0, 0) hcw
              have bx := cell_of_row _ _ 1 _ _ (0, 0) HKQ.out.box
              rw [HZV.out] at bx
              have HOW := Lib.hid (own_low how (show V.heap.size + 1 ≤ q + 1 by have := HVQ.out; omega))
              have HK7 := Lib.hid (HKQ.out.under ((Below.refl _ _).alloc (Nat.le_refl _) (.cells #[.string cn, .string ct, .slice As ns csx] 57)))
              have HO7 := Lib.hid (HOW.out.alloc (.cells #[.string cn, .string ct, .slice As ns csx] 57))
              have HLT := Lib.hid (Gn.heap_lt HKQ.out.box)
              have HNS := Lib.hid hns
              have hw1 : IntKind.i64.wrap ((k : Int) + 1) = ((k + 1 : Nat) : Int) := IntWalk.i64_in _ (by omega)
              clear hbw hcw how hns
              go_wp2_with ((at_builtin; refine wpList_append_own _ rfl _ _ 29 rfl (V.heap.size + 1) 57 i1 _ 3 56 Tryz.underlying29 hi1 hy0 hy1 hy2 rfl (by decide) (.slice A2 k c2) k (cellsOf encC raw2) rfl (by have := HK7.out.cp.rc; rwa [HCK.out] at this) ⟨M2.heap.size, 0, none⟩ 1 1 (encC ⟨cn, ct, .slice As ns csx⟩) rfl rfl (Gn.row_new M2 (encC ⟨cn, ct, .slice As ns csx⟩) 57 M2.heap.size rfl) (by intro u hu; simp [encC] at hu; rcases hu with rfl | rfl | rfl <;> rfl) (by unfold maxLen; omega) (by omega) (by simp; have := HLT.out; omega) ?_))
              intro v9 w9 ho9 hg9 _
              have h9 := HK7.out.snocC (c := ⟨cn, ct, .slice As ns csx⟩) (d := ⟨cn, ct, keepS wo ss⟩) (by rw [HCK.out]; exact ho9) hg9 ⟨rfl, rfl, by rw [← HNS.out]; exact HO7.out⟩
              rw [HZV.out] at h9
              have HG9 := Lib.hid h9
              have hb9 := (HK7.out.grown HK7.out.cp.rc hg9).2
              obtain ⟨A9, c9, rfl⟩ := Gn.slice_of ho9
              have b0 := cell_of_row _ _ 1 _ _ (0, 0) hb9
              have f0 := Gn.frozen_row hb9 1
              rw [HZV.out] at b0 f0
              clear ho9 hg9 y0 y1 y2 bx hb9 h9
              go_wp2_with fail
              go_roundw
              case rel => exact ⟨k + 1, _, _, by omega, by go_num, by rw [HDN.out]; exact HG9.out⟩
              case measure => simp [intOf]; omega
        · have hlt2 : ¬ (k : Int) < (m : Int) := by omega
          have hke : k = m := by omega
          have HKE2 := Lib.hid (show (r.cs.take k).map (keepC wo) = r.cs.map (keepC wo) by rw [hke, HMM.out, List.take_length])
          rw [HKE2.out] at HK
          clear hke
          obtain ⟨A2z, c2z, rfl⟩ := Gn.slice_of HK.out.cp.rc
          obtain ⟨mz, hmz⟩ : ∃ n, n = (r.cs.map (keepC wo)).length := ⟨_, rfl⟩
          rw [← hmz] at HK
          have b0 := cell_of_row _ _ 0 _ _ (0, 0) HK.out.box
          have b1 := cell_of_row _ _ 1 _ _ (0, 0) HK.out.box
          rw [HZV.out] at b0 b1
          have hq := (HK.out.bel.block (W.heap.size + 1) (by rw [HZV.out]; omega)).trans HXR.out
          have f0 := Gn.frozen_row hq 0
          have f1 := Gn.frozen_row hq 1
          have r0 := cell_of_row _ _ 0 _ _ (0, 0) hq
          have r1 := cell_of_row _ _ 1 _ _ (0, 0) hq
          have HRS := Lib.hid (Gn.heap_set (Gn.heap_set hq 0 (.slice A1z nz c1z)) 1 (.slice A2z mz c2z))
          have HBW := Lib.hid ((HB.out.trans (HK.out.bel.mono HB.out.size)).setCell (p := ⟨W.heap.size + 1, 0, none⟩) (by show W.heap.size ≤ W.heap.size + 1; omega) (.slice A1z nz c1z) |>.setCell (p := ⟨W.heap.size + 1, 1, none⟩) (by show W.heap.size ≤ W.heap.size + 1; omega) (.slice A2z mz c2z))
          have HNM := Lib.hid hmz
          clear hq hmz
          go_wp2_with fail
          refine bodyPost_ret (results_cell_agg (P := Tryz.prog) rfl _ _ (W.heap.size + 1) 31 _ (0, 0) _ rfl HRS.out Tryz.underlying31 rfl (by kernel_rfl)) rfl ?_
          refine ⟨_, _, raw2, rfl, ?_, HBW.out⟩
          have hcp := HK.out.cp
          rw [HNM.out, HKM.out, HNZ.out, HKM.out] at hcp
          rw [HNM.out, HNZ.out, HKM.out]
          exact (hcp.blocks hcp.ltq fun q h1 _ => (set_far q (by rw [HZV.out] at h1; omega)).trans (set_far q (by rw [HZV.out] at h1; omega))).low (by rw [HZV.out]; omega)
end Go.Proofs.YtnmhgjoofgmcgaaGreat.Rl

namespace Go.Proofs.YtnmhgjoofgmcgaaGreat.Rl
open Go.RowKit
open Fx (StrsAt)
set_option maxRecDepth 100000
set_option linter.unusedSimpArgs false
set_option linter.unusedVariables false
theorem keepB_nil (nm : ByteArray) : keepB ⟨#[]⟩ nm = true := by unfold keepB; rw [decide_eq_true rfl]; rfl
theorem filter_all {α : Type} {p : α → Bool} (l : List α) (h : ∀ x, p x = true) : l.filter p = l := List.filter_eq_self.2 fun x _ => h x
theorem copyM_nil (r : Rol) : copyM r ⟨#[]⟩ = r := by
  unfold copyM keepM
  rw [filter_all (p := fun m : Mem => keepB ⟨#[]⟩ m.name) r.ms (fun m => keepB_nil m.name)]
  have : r.cs.map (keepC ⟨#[]⟩) = r.cs := by
    have h : ∀ c : Cls, keepC ⟨#[]⟩ c = c := fun c => by unfold keepC keepS; rw [filter_all (p := fun s => keepB ⟨#[]⟩ s) c.studs (fun s => keepB_nil s)]
    rw [show keepC ⟨#[]⟩ = id from funext h, List.map_id]
  rw [this]
theorem copy0_any (r : Rol) (hn : r.ms.length ≤ 4096) (hm : r.cs.length ≤ 4096) (hst : ∀ c ∈ r.cs, c.studs.length ≤ 4096) (P : Nat → Prop) (W : World) (v : Value) (h : RlAt P W r v) :
    Calls Tryz.prog 65 #[v, .string ⟨#[]⟩] W (CopyOut W r) := by
  have := copy_any r ⟨#[]⟩ hn hm hst P W v h
  rwa [copyM_nil] at this
theorem findL_is {r : Rol} (hs : Rising r.names) (nm : ByteArray) : (findL r.ms nm).isSome = hasN r.names nm ∧ (findL r.ms nm).getD nilM = findM r nm := by
  cases hh : hasN r.names nm with
  | true =>
    obtain ⟨f1, f2⟩ := find_in hs hh
    have hx : findL r.ms nm = some (findM r nm) := by
      cases hf : findL r.ms nm with
      | none =>
        have := List.find?_eq_none.1 hf _ f1
        simp [f2] at this
      | some x =>
        have h1 := List.mem_of_find?_eq_some hf
        have h2 := List.find?_some hf
        rw [rising_eq (fun m : Mem => m.name) (show Rising (r.ms.map fun m => m.name) from hs) f1 h1 (f2.trans (of_decide_eq_true h2).symm)]
    rw [hx]; exact ⟨rfl, rfl⟩
  | false =>
    have hx : findL r.ms nm = none := List.find?_eq_none.2 fun x hx h => by
      have : hasN r.names nm = true := hasN_iff.2 (List.mem_map.2 ⟨x, hx, of_decide_eq_true h⟩)
      rw [hh] at this; cases this
    rw [hx]
    refine ⟨rfl, ?_⟩
    unfold findM
    rw [hh]; rfl
theorem find2_any (r : Rol) (nm : ByteArray) (hs : Rising r.names) (hn : r.ms.length ≤ 4096) (P : Nat → Prop) (W : World) (v : Value) (h : RlAt P W r v) :
    Calls Tryz.prog 13 #[v, .string nm] W fun e w' => e = .returned (.tuple #[.agg #[.string (findM r nm).name, .int .i64 (findM r nm).role, .int .i64 (findM r nm).quota], .bool (hasN r.names nm)]) ∧ Below W.heap.size W w' := by
  have := rfind_any r nm P W v h hn
  rwa [(findL_is hs nm).1, (findL_is hs nm).2] at this
/-- The names of a list but one. -/
theorem filter_del {α : Type} (f : α → ByteArray) (l : List α) (nm : ByteArray) (hs : Rising (l.map f)) (h : hasN (l.map f) nm = true) : l.filter (fun x => decide (f x ≠ nm)) = l.take (plc (l.map f) nm) ++ l.drop (plc (l.map f) nm + 1) := by
  have hp : plc (l.map f) nm < l.length := by have := hasN_lt hs h; rwa [List.length_map] at this
  have key : ∀ j (hj : j < l.length), f l[j] = nm ↔ j = plc (l.map f) nm := fun j hj => by
    have := plc_at hs nm j (by rwa [List.length_map])
    rw [List.getElem_map] at this
    rw [this]
    exact ⟨fun h => h.2, fun e => ⟨h, e⟩⟩
  obtain ⟨p, hpe⟩ : ∃ p, p = plc (l.map f) nm := ⟨_, rfl⟩
  rw [← hpe] at hp key ⊢
  have e : l = l.take p ++ l[p] :: l.drop (p + 1) := by rw [← List.drop_eq_getElem_cons hp, List.take_append_drop]
  have e1 : (l.take p).filter (fun x => decide (f x ≠ nm)) = l.take p := List.filter_eq_self.2 fun x hx => by
    obtain ⟨i, hi, rfl⟩ := List.getElem_of_mem hx
    rw [List.length_take] at hi
    rw [List.getElem_take, decide_eq_true_iff]
    intro h2
    have := (key i (by omega)).1 h2
    omega
  have e2 : (l.drop (p + 1)).filter (fun x => decide (f x ≠ nm)) = l.drop (p + 1) := List.filter_eq_self.2 fun x hx => by
    obtain ⟨i, hi, rfl⟩ := List.getElem_of_mem hx
    rw [List.length_drop] at hi
    rw [List.getElem_drop, decide_eq_true_iff]
    intro h2
    have := (key (p + 1 + i) (by omega)).1 h2
    omega
  have e3 : decide (f l[p] ≠ nm) = false := decide_eq_false fun h2 => h2 ((key p hp).2 rfl)
  conv => lhs; rw [e]
  rw [List.filter_append, e1, List.filter_cons, e3, e2]
  rfl
theorem filter_not {α : Type} (f : α → ByteArray) (l : List α) (nm : ByteArray) (h : hasN (l.map f) nm = false) : l.filter (fun x => decide (f x ≠ nm)) = l := List.filter_eq_self.2 fun x hx => by
  rw [decide_eq_true_iff]
  intro h2
  have : hasN (l.map f) nm = true := hasN_iff.2 (List.mem_map.2 ⟨x, hx, h2⟩)
  rw [h] at this; cases this
theorem keepB_ne {wo : ByteArray} (h : wo ≠ ⟨#[]⟩) (nm : ByteArray) : keepB wo nm = decide (nm ≠ wo) := by unfold keepB; rw [decide_eq_false h, Bool.false_or]
theorem keepS_out {wo : ByteArray} (h : wo ≠ ⟨#[]⟩) {l : List ByteArray} (hs : Rising l) : keepS wo l = outN l wo := by
  unfold keepS outN
  rw [show (fun s => keepB wo s) = fun s => decide (s ≠ wo) from funext (keepB_ne h)]
  have hm : l.map id = l := List.map_id l
  cases hh : hasN l wo with
  | true =>
    rw [if_pos rfl]
    have := filter_del id l wo (by rw [hm]; exact hs) (by rw [hm]; exact hh)
    rw [hm] at this
    exact this
  | false =>
    rw [if_neg (by decide)]
    have := filter_not id l wo (by rw [hm]; exact hh)
    exact this
theorem leave_is {r : Rol} {nm : ByteArray} (hsz : Sized r) (h : hasN r.names nm = true) (hne : nm ≠ ⟨#[]⟩) : copyM r nm = ⟨r.ms.take (plc r.names nm) ++ r.ms.drop (plc r.names nm + 1), r.cs.map (lvC nm)⟩ := by
  unfold copyM keepM
  rw [show (fun m : Mem => keepB nm m.name) = fun m => decide (m.name ≠ nm) from funext fun m => keepB_ne hne m.name]
  have e1 := filter_del (fun m : Mem => m.name) r.ms nm hsz.names h
  have e2 : r.cs.map (keepC nm) = r.cs.map (lvC nm) := List.map_congr_left fun c hc => by
    unfold keepC lvC
    rw [keepS_out hne (hsz.rising c hc)]
  rw [e2]
  congr 1
/-- Where an office stands. -/
structure OpB (W w : World) (x y : Value) : Prop where
  bel : Below W.heap.size W w
  rbox : w.heap[W.heap.size]? = some (.cells #[x, y] 31 (0, 0))
  res : w.heap[W.heap.size + 1]? = some (.cells #[.slice none 0 0, .slice none 0 0] 31 (0, 0))
section
variable {W w w' : World} {x y : Value}
theorem OpB.under (h : OpB W w x y) (b : Below w.heap.size w w') : OpB W w' x y :=
  ⟨h.bel.trans (b.mono h.bel.size), (b.block _ (Gn.heap_lt h.rbox)).trans h.rbox, (b.block _ (Gn.heap_lt h.res)).trans h.res⟩
theorem OpB.above (h : OpB W w x y) {q : Nat} (hq : W.heap.size + 2 ≤ q) (b : Below q w w') : OpB W w' x y :=
  ⟨h.bel.trans (b.mono (by omega)), (b.block _ (by omega)).trans h.rbox, (b.block _ (by omega)).trans h.res⟩
theorem OpB.exit (h : OpB W w x y) : ((w.setCell ⟨W.heap.size + 1, 0, none⟩ (.slice none 0 0)).setCell ⟨W.heap.size + 1, 1, none⟩ (.slice none 0 0)).heap[W.heap.size + 1]? = some (.cells #[.slice none 0 0, .slice none 0 0] 31 (0, 0)) ∧ Below W.heap.size W ((w.setCell ⟨W.heap.size + 1, 0, none⟩ (.slice none 0 0)).setCell ⟨W.heap.size + 1, 1, none⟩ (.slice none 0 0)) :=
  ⟨Gn.heap_set (Gn.heap_set h.res 0 _) 1 _, (h.bel.setCell (by show W.heap.size ≤ W.heap.size + 1; omega) _).setCell (by show W.heap.size ≤ W.heap.size + 1; omega) _⟩
theorem OpB.full (h : OpB W w x y) {base : Nat} {ms : List Mem} {cs : List Cls} {raws : List CRaw} {vm vc : Value} (hc : CpAt base w ms cs raws vm vc) (hb : W.heap.size + 2 ≤ base) : ((w.setCell ⟨W.heap.size + 1, 0, none⟩ vm).setCell ⟨W.heap.size + 1, 1, none⟩ vc).heap[W.heap.size + 1]? = some (.cells #[vm, vc] 31 (0, 0)) ∧ OpOut W (.ok ⟨ms, cs⟩) (.returned (.tuple #[.agg #[vm, vc], .int .i64 0])) ((w.setCell ⟨W.heap.size + 1, 0, none⟩ vm).setCell ⟨W.heap.size + 1, 1, none⟩ vc) :=
  ⟨Gn.heap_set (Gn.heap_set h.res 0 _) 1 _, _, rfl, ((hc.blocks hc.ltq fun q h1 _ => (set_far q (by omega)).trans (set_far q (by omega))).rl).keep (Nat.le_refl _) (fun q hq _ => ⟨by omega, fun _ => rfl⟩), (h.bel.setCell (by show W.heap.size ≤ W.heap.size + 1; omega) _).setCell (by show W.heap.size ≤ W.heap.size + 1; omega) _⟩
theorem OpB.lt (h : OpB W w x y) : W.heap.size + 2 ≤ w.heap.size := by have := Gn.heap_lt h.res; omega
end
end Go.Proofs.YtnmhgjoofgmcgaaGreat.Rl

namespace Go.Proofs.YtnmhgjoofgmcgaaGreat.Rl
open Go.RowKit
open Fx (StrsAt)
set_option maxRecDepth 100000
set_option linter.unusedSimpArgs false
set_option linter.unusedVariables false
/-- Each class as it lies is that class, its students in a row of its own. -/
def OwnC (base : Nat) (w : World) (raws : List CRaw) (cs : List Cls) : Prop := raws.length = cs.length ∧ ∀ (i : Nat) (h : i < raws.length) (h2 : i < cs.length), raws[i].name = cs[i].name ∧ raws[i].teacher = cs[i].teacher ∧ w.ownsRow base 9 1 raws[i].studs cs[i].studs.length (cs[i].studs.map Value.string)
section
variable {base q : Nat} {w w' : World} {ms : List Mem} {cs ds : List Cls} {raws rads : List CRaw} {vm vc : Value}
theorem CpAt.ownC (h : CpAt base w ms cs raws vm vc) : OwnC base w raws cs := ⟨h.len, h.own⟩
theorem OwnC.take (h : OwnC base w raws cs) (k : Nat) : OwnC base w (raws.take k) (cs.take k) := by
  refine ⟨by rw [List.length_take, List.length_take, h.1], fun i h1 h2 => ?_⟩
  rw [List.length_take] at h1 h2
  rw [List.getElem_take, List.getElem_take]
  exact h.2 i (by omega) (by omega)
theorem OwnC.drop (h : OwnC base w raws cs) (k : Nat) : OwnC base w (raws.drop k) (cs.drop k) := by
  refine ⟨by rw [List.length_drop, List.length_drop, h.1], fun i h1 h2 => ?_⟩
  rw [List.length_drop] at h1 h2
  rw [List.getElem_drop, List.getElem_drop]
  exact h.2 (k + i) (by omega) (by omega)
theorem OwnC.app (h : OwnC base w raws cs) (k : OwnC base w rads ds) : OwnC base w (raws ++ rads) (cs ++ ds) := by
  have hl := h.1
  refine ⟨by rw [List.length_append, List.length_append, h.1, k.1], fun i h1 h2 => ?_⟩
  rw [List.length_append] at h1 h2
  by_cases hi : i < raws.length
  · rw [List.getElem_append_left hi, List.getElem_append_left (by omega)]
    exact h.2 i hi (by omega)
  · rw [List.getElem_append_right (by omega), List.getElem_append_right (by omega)]
    have := k.2 (i - raws.length) (by omega) (by omega)
    simp only [hl] at this ⊢
    exact this
theorem OwnC.one {c : CRaw} {d : Cls} (h1 : c.name = d.name) (h2 : c.teacher = d.teacher) (h3 : w.ownsRow base 9 1 c.studs d.studs.length (d.studs.map Value.string)) : OwnC base w [c] [d] :=
  ⟨rfl, fun i h4 h5 => by
    have : i = 0 := by simpa using h4
    subst this
    exact ⟨h1, h2, h3⟩⟩
theorem OwnC.slices (h : OwnC base w raws cs) : ∀ (i : Nat) (hi : i < raws.length), ∃ A n c, raws[i].studs = .slice A n c := fun i hi => by
  obtain ⟨A, c, e⟩ := Gn.slice_of (h.2 i hi (by rw [← h.1]; exact hi)).2.2
  exact ⟨A, _, c, e⟩
/-- The rows with other classes. -/
theorem CpAt.reclass (h : CpAt base w ms cs raws vm vc) (hl : LtQ q raws vm vc) (b : Below q w w') {v' : Value} (hr : w'.ownsRow base 57 3 v' ds.length (cellsOf encC rads)) (ho : OwnC base w' rads ds) : CpAt base w' ms ds rads vm v' :=
  ⟨(h.blocks (w' := w') hl fun k _ hk => b.block k hk).rm, hr, ho.1, ho.2⟩
theorem CpAt.remem (h : CpAt base w ms cs raws vm vc) (hl : LtQ q raws vm vc) (b : Below q w w') {v' : Value} {ls : List Mem} (hr : w'.ownsRow base 48 3 v' ls.length (cellsOf encM ls)) : CpAt base w' ls cs raws v' vc :=
  ⟨hr, (h.blocks (w' := w') hl fun k _ hk => b.block k hk).rc, h.len, (h.blocks (w' := w') hl fun k _ hk => b.block k hk).own⟩
theorem CpAt.mid (h : CpAt base w ms cs raws vm vc) (hl : LtQ q raws vm vc) (b : Below q w w') : CpAt base w' ms cs raws vm vc := h.blocks hl fun k _ hk => b.block k hk
end
theorem below_grown {q : Nat} {M w w' : World} {o : Option Nat} (hb : Below q M w) (hq : q < w.heap.size) (hg : w.grownBy w' o) (ho : ∀ k, o = some k → q < k) : Below (q + 1) w w' ∧ Below q M w' := by
  have hk : ∀ k, k < q + 1 → w'.heap[k]? = w.heap[k]? := fun k h => hg.block k (by omega) (fun e => by have := ho k e.symm; omega)
  exact ⟨⟨hg.os, hg.tape, hg.output, hg.size, hk⟩, ⟨hg.os.trans hb.os, hg.tape.trans hb.tape, hg.output.trans hb.output, Nat.le_trans hb.size hg.size, fun k h => (hk k (by omega)).trans (hb.block k h)⟩⟩
/-- The cells of a part of a row of one's own. -/
theorem cells_part {α : Type} {enc : α → List Value} (he : ∀ x, (enc x).length = 3) {w : World} {base g n cap : Nat} {T : TypeId} {l : List α} (h : w.ownsRow base T 3 (.slice (some ⟨g, 0, none⟩) n cap) n (cellsOf enc l)) (k i : Nat) : ∀ j u, (cellsOf enc ((l.drop k).take i))[j]? = some u → w.cell? ((⟨g, k * 3, none⟩ : Addr).add j) = some u := by
  intro j u hu
  have hc := h.cells (g := g) rfl (k * 3 + j) u
  rw [Gn.add_row] at hc
  have e : (⟨g, k * 3, none⟩ : Addr).add j = ⟨g, k * 3 + j, none⟩ := by
    unfold Addr.add
    split <;> simp_all
  rw [e]
  refine hc ?_
  have h1 : (cellsOf enc (l.drop k))[j]? = some u := by
    have e2 : l.drop k = (l.drop k).take i ++ (l.drop k).drop i := (List.take_append_drop i _).symm
    rw [e2, cellsOf_app]
    have hj : j < (cellsOf enc ((l.drop k).take i)).length := by
      rcases Nat.lt_or_ge j (cellsOf enc ((l.drop k).take i)).length with h9 | h9
      · exact h9
      · rw [List.getElem?_eq_none h9] at hu; cases hu
    rw [List.getElem?_append_left hj]; exact hu
  by_cases hk : k ≤ l.length
  · rw [cellsOf_drop he l k hk, List.getElem?_drop] at h1
    exact h1
  · rw [List.drop_eq_nil_of_le (by omega)] at h1
    simp [cellsOf] at h1
theorem cls_elem (w : World) : (Go.sizeOf (Tryz.prog.elem 29)).run Tryz.prog w = .ok 3 w := by kernel_rfl
theorem slc_to (g len cap p : Nat) (h : p ≤ cap) (w : World) : (Instr.slice 29 (.slice (some ⟨g, 0, none⟩) len cap) none (some (.int .i64 (p : Int))) none).run Tryz.prog w = .ok (.slice (some ⟨g, 0, none⟩) p cap) w := by
  rw [run_slice_h w 29 _ len cap (by kernel_rfl) .i64 (p : Int) (by omega) (by omega), cls_elem]
  have e : (⟨g, 0, none⟩ : Addr).add 0 = ⟨g, 0, none⟩ := Gn.add_row g 0
  simp [Result.andThen, sliced, e]
/-- Where the rest of a row begins. -/
def offC (cap l : Nat) : Nat := if cap = l then 0 else l * 3
theorem slc_from (g len cap l : Nat) (h : l ≤ len) (w : World) : (Instr.slice 29 (.slice (some ⟨g, 0, none⟩) len cap) (some (.int .i64 (l : Int))) none none).run Tryz.prog w = .ok (.slice (some ⟨g, offC cap l, none⟩) (len - l) (cap - l)) w := by
  rw [run_slice_l w 29 _ len cap (by kernel_rfl) .i64 (l : Int) (by omega) (by omega), cls_elem]
  unfold offC
  by_cases hc : cap = l
  · simp [Result.andThen, sliced, hc]
  · simp [Result.andThen, sliced, hc, Gn.add_row]
theorem cells_rest {w : World} {base g n cap : Nat} {T : TypeId} {l : List CRaw} (h : w.ownsRow base T 3 (.slice (some ⟨g, 0, none⟩) n cap) n (cellsOf encC l)) (hn : l.length = n) (hcap : n ≤ cap) (k : Nat) : ∀ j u, (cellsOf encC (l.drop k))[j]? = some u → w.cell? ((⟨g, offC cap k, none⟩ : Addr).add j) = some u := by
  intro j u hu
  unfold offC
  by_cases hc : cap = k
  · rw [List.drop_eq_nil_of_le (by omega)] at hu
    simp [cellsOf] at hu
  · rw [if_neg hc]
    have := cells_part encC_len h k (l.drop k).length j u
    rw [List.take_length] at this
    exact this hu
theorem bl_is {a b : ByteArray} {c : Bool} (h : decide (cmpN a b < 0) = c) : Op.bytesLess a.toList b.toList = c := by rw [less_cmp, Lib.toList_data, Lib.toList_data]; exact h
theorem run_lss {a b : ByteArray} {c : Bool} (h : decide (cmpN a b < 0) = c) : ∀ w, (binOp .lss 9 (.string a) (.string b)).run Tryz.prog w = .ok (.bool c) w := by
  have hq : ∀ w, (binOp .lss 9 (.string a) (.string b)).run Tryz.prog w = .ok (.bool (Op.bytesLess a.toList b.toList)) w := fun w => by first | rfl | kernel_rfl
  have hl : Op.bytesLess a.toList b.toList = decide (cmpN a b < 0) := by rw [less_cmp, Lib.toList_data, Lib.toList_data]; rfl
  rw [← h, ← hl]; exact hq
theorem run_gtr {a b : ByteArray} {c : Bool} (h : decide (cmpN b a < 0) = c) : ∀ w, (binOp .gtr 9 (.string a) (.string b)).run Tryz.prog w = .ok (.bool c) w := by
  have hq : ∀ w, (binOp .gtr 9 (.string a) (.string b)).run Tryz.prog w = .ok (.bool (!(Op.bytesLess a.toList b.toList || a.toList == b.toList))) w := fun w => by first | rfl | kernel_rfl
  have hl : Op.bytesLess a.toList b.toList = decide (cmpN a b < 0) := by rw [less_cmp, Lib.toList_data, Lib.toList_data]; rfl
  have he : (!(Op.bytesLess a.toList b.toList || a.toList == b.toList)) = c := by
    rw [hl, bytes_eq, ← h, cmpN_neg a b]
    by_cases h1 : cmpN a b < 0
    · rw [decide_eq_true h1, decide_eq_false (show ¬ -cmpN a b < 0 by omega)]; rfl
    · by_cases h2 : a = b
      · rw [h2, cmpN_self]; simp
      · have h3 : cmpN a b ≠ 0 := fun h4 => h2 (cmpN_eq h4)
        rw [decide_eq_false h1, decide_eq_false h2, decide_eq_true (show -cmpN a b < 0 by omega)]; rfl
  rw [← he]; exact hq
theorem own_form {w : World} {base n s : Nat} {T : TypeId} {v : Value} {xs : List Value} (h : w.ownsRow base T s v n xs) (hn : 0 < n) : ∃ g cap, v = .slice (some ⟨g, 0, none⟩) n cap ∧ n ≤ cap ∧ base ≤ g ∧ g < w.heap.size := by
  rcases h.2 with ⟨_, h2⟩ | ⟨g, cap, cur, h1, h2, h3, h4, _⟩
  · omega
  · exact ⟨g, cap, h1, h4, h2, Gn.heap_lt h3⟩
/-- Names below and above where one belongs. -/
theorem plc_lo {l : List ByteArray} (hs : Rising l) (x : ByteArray) (k : Nat) (hk : k < l.length) (h : k < plc l x) : cmpN l[k] x < 0 := by
  induction l generalizing k with
  | nil => simp at hk
  | cons y r ih =>
    rw [plc] at h
    split at h
    · rename_i hy
      have hr := List.pairwise_cons.1 hs
      cases k with
      | zero => show cmpN y x < 0; rw [cmpN_neg x]; omega
      | succ k => exact ih hr.2 k (by simpa using hk) (by omega)
    · omega
theorem plc_hi {l : List ByteArray} (hs : Rising l) (x : ByteArray) (k : Nat) (hk : k < l.length) (h : plc l x ≤ k) : ¬ cmpN l[k] x < 0 := by
  induction l generalizing k with
  | nil => simp at hk
  | cons y r ih =>
    rw [plc] at h
    have hr := List.pairwise_cons.1 hs
    split at h
    · rename_i hy
      cases k with
      | zero => omega
      | succ k => exact ih hr.2 k (by simpa using hk) (by omega)
    · rename_i hy
      cases k with
      | zero => show ¬ cmpN y x < 0; rw [cmpN_neg x]; omega
      | succ k =>
        show ¬ cmpN (r[k]'(by simpa using hk)) x < 0
        intro h2
        have h3 := hr.1 (r[k]'(by simpa using hk)) (List.getElem_mem _)
        have h4 := cmpN_trans h3 h2
        rw [cmpN_neg x] at h4
        omega
end Go.Proofs.YtnmhgjoofgmcgaaGreat.Rl

namespace Go.Proofs.YtnmhgjoofgmcgaaGreat.Rl
open Go.RowKit
open Fx (StrsAt)
set_option maxRecDepth 100000
set_option linter.unusedSimpArgs false
set_option linter.unusedVariables false
theorem other_block {w : World} {b1 b2 : Nat} {T1 T2 : TypeId} {s1 s2 n m g cap : Nat} {u : Value} {xs ys : List Value} (h : w.ownsRow b1 T1 s1 (.slice (some ⟨g, 0, none⟩) n cap) n xs) (k : w.ownsRow b2 T2 s2 u m ys) (hne : T1 ≠ T2) : ∀ q, u.ownBlock = some q → q ≠ g := by
  intro q hq e
  subst e
  obtain ⟨c1, h1⟩ := own_type h (q := q) rfl
  obtain ⟨c2, h2⟩ := own_type k hq
  rw [h1] at h2
  injection h2 with h2
  injection h2 with _ h2
  exact hne h2
theorem below_grown2 {q : Nat} {M w w' : World} {o : Option Nat} (hb : Below (q + 1) M w) (hq : q < w.heap.size) (hg : w.grownBy w' o) (ho : ∀ k, o = some k → q < k) : Below (q + 1) M w' :=
  hb.trans (below_grown (q := q) (Below.refl _ w) hq hg ho).1
theorem cellsM_one (y : Mem) : cellsOf encM [y] = encM y := by simp [cellsOf]
theorem set_len {α : Type} (l : List α) (k : Nat) (x : α) : (l.set k x).length = l.length := List.length_set
section
variable {base : Nat} {w : World} {ms : List Mem} {cs : List Cls} {raws : List CRaw} {vm vc : Value}
theorem CpAt.setM {g n cap : Nat} (h : CpAt base w ms cs raws (.slice (some ⟨g, 0, none⟩) n cap) vc) (hn : ms.length = n) (k : Nat) (hk : k < ms.length) (q : Int) : CpAt base (w.setCell ⟨g, k * 3 + 2, none⟩ (.int .i64 q)) (ms.set k ⟨ms[k].name, ms[k].role, q⟩) cs raws (.slice (some ⟨g, 0, none⟩) n cap) vc := by
  have hrm := h.rm
  rw [hn] at hrm
  refine ⟨by rw [set_len, hn]; exact own_quota hrm hn hk q, own_keep h.rc fun z hz => set_far z (other_block hrm h.rc (by decide) z hz), h.len, fun i h1 h2 => ⟨(h.own i h1 h2).1, (h.own i h1 h2).2.1, own_keep (h.own i h1 h2).2.2 fun z hz => set_far z (other_block hrm (h.own i h1 h2).2.2 (by decide) z hz)⟩⟩
theorem CpAt.setC {g n cap : Nat} (h : CpAt base w ms cs raws vm (.slice (some ⟨g, 0, none⟩) n cap)) (hn : cs.length = n) (k : Nat) (hk : k < cs.length) {v : Value} {l : List ByteArray} (hv : w.ownsRow base 9 1 v l.length (l.map Value.string)) (hkr : k < raws.length) : CpAt base (w.setCell ⟨g, k * 3 + 2, none⟩ v) ms (cs.set k ⟨cs[k].name, cs[k].teacher, l⟩) (raws.set k ⟨raws[k].name, raws[k].teacher, v⟩) vm (.slice (some ⟨g, 0, none⟩) n cap) := by
  have hrc := h.rc
  rw [hn] at hrc
  have hl := h.len
  refine ⟨own_keep h.rm fun z hz => set_far z (other_block hrc h.rm (by decide) z hz), by rw [set_len, hn]; exact own_studs hrc (by rw [hl, hn]) hkr v, by rw [set_len, set_len, hl], fun i h1 h2 => ?_⟩
  have h3 := h1
  have h4 := h2
  rw [set_len] at h3 h4
  by_cases hi : i = k
  · subst hi
    rw [List.getElem_set_self, List.getElem_set_self]
    obtain ⟨a1, a2, _⟩ := h.own i h3 h4
    exact ⟨a1, a2, own_keep hv fun z hz => set_far z (other_block hrc hv (by decide) z hz)⟩
  · rw [List.getElem_set_ne (by omega), List.getElem_set_ne (by omega)]
    obtain ⟨a1, a2, a3⟩ := h.own i h3 h4
    exact ⟨a1, a2, own_keep a3 fun z hz => set_far z (other_block hrc a3 (by decide) z hz)⟩
end
theorem cell_mem {w : World} {base g n cap : Nat} {T : TypeId} {l : List Mem} (h : w.ownsRow base T 3 (.slice (some ⟨g, 0, none⟩) n cap) n (cellsOf encM l)) (k : Nat) (hk : k < l.length) : w.cell? ⟨g, k * 3, none⟩ = some (.string l[k].name) ∧ w.cell? ⟨g, k * 3 + 1, none⟩ = some (.int .i64 l[k].role) ∧ w.cell? ⟨g, k * 3 + 2, none⟩ = some (.int .i64 l[k].quota) := by
  have hc := h.cells (g := g) rfl
  have c0 := hc (k * 3) _ (by have := cellsOf_at encM_len l k hk 0 _ rfl; rwa [Nat.add_zero] at this)
  have c1 := hc (k * 3 + 1) _ (cellsOf_at encM_len l k hk 1 _ rfl)
  have c2 := hc (k * 3 + 2) _ (cellsOf_at encM_len l k hk 2 _ rfl)
  rw [Gn.add_row] at c0 c1 c2
  exact ⟨c0, c1, c2⟩
theorem cell_cls {w : World} {base g n cap : Nat} {T : TypeId} {l : List CRaw} (h : w.ownsRow base T 3 (.slice (some ⟨g, 0, none⟩) n cap) n (cellsOf encC l)) (k : Nat) (hk : k < l.length) : w.cell? ⟨g, k * 3, none⟩ = some (.string l[k].name) ∧ w.cell? ⟨g, k * 3 + 1, none⟩ = some (.string l[k].teacher) ∧ w.cell? ⟨g, k * 3 + 2, none⟩ = some l[k].studs := by
  have hc := h.cells (g := g) rfl
  have c0 := hc (k * 3) _ (by have := cellsOf_at encC_len l k hk 0 _ rfl; rwa [Nat.add_zero] at this)
  have c1 := hc (k * 3 + 1) _ (cellsOf_at encC_len l k hk 1 _ rfl)
  have c2 := hc (k * 3 + 2) _ (cellsOf_at encC_len l k hk 2 _ rfl)
  rw [Gn.add_row] at c0 c1 c2
  exact ⟨c0, c1, c2⟩
theorem own_free {w : World} {base s n g cap : Nat} {T : TypeId} {xs : List Value} (h : w.ownsRow base T s (.slice (some ⟨g, 0, none⟩) n cap) n xs) (j : Nat) : w.frozen? ⟨g, j, none⟩ = false := by
  obtain ⟨cur, hc⟩ := own_type h (q := g) rfl
  exact Gn.frozen_row hc j
theorem filt_out {l : List ByteArray} (hs : Rising l) (wo : ByteArray) : l.filter (fun s => decide (s ≠ wo)) = outN l wo := by
  unfold outN
  have hm : l.map id = l := List.map_id l
  cases hh : hasN l wo with
  | true =>
    rw [if_pos rfl]
    have := filter_del id l wo (by rw [hm]; exact hs) (by rw [hm]; exact hh)
    rw [hm] at this
    exact this
  | false =>
    rw [if_neg (by decide)]
    have := filter_not id l wo (by rw [hm]; exact hh)
    exact this
theorem cell_str {w : World} {base g n cap : Nat} {T : TypeId} {l : List ByteArray} (h : w.ownsRow base T 1 (.slice (some ⟨g, 0, none⟩) n cap) n (l.map Value.string)) (k : Nat) (hk : k < l.length) : w.cell? ⟨g, k, none⟩ = some (.string l[k]) := by
  have hc := h.cells (g := g) rfl k (.string l[k]) (by rw [List.getElem?_map, List.getElem?_eq_getElem hk]; rfl)
  rwa [Gn.add_row] at hc
/-- The names but one. -/
def notS (st : ByteArray) (l : List ByteArray) : List ByteArray := l.filter fun s => decide (s ≠ st)
theorem notS_step (st : ByteArray) (l : List ByteArray) (k : Nat) (h : k < l.length) : notS st (l.take (k + 1)) = notS st (l.take k) ++ if l[k] = st then [] else [l[k]] := by
  unfold notS
  rw [keep_snoc (fun s : ByteArray => decide (s ≠ st)) l k h]
  by_cases e : l[k] = st
  · rw [if_pos e, decide_eq_false (fun h => h e)]; rfl
  · rw [if_neg e, decide_eq_true e]; rfl
end Go.Proofs.YtnmhgjoofgmcgaaGreat.Rl
