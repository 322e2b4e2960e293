/-
  Layer 18: Leave's loop over classes, and its answer in plain words.
  Layer 18: Leave.
-/
import Derived.Test.YtnmhgjoofgmcgaaGreatRlPt
import Derived.Test.YtnmhgjoofgmcgaaGreatRlTeach

namespace Go.Proofs.YtnmhgjoofgmcgaaGreat.Rl
open Go.RowKit
open Fx (StrsAt)
set_option maxRecDepth 100000
set_option linter.unusedSimpArgs false
set_option linter.unusedVariables false
def lvC (nm : ByteArray) (c : Cls) : Cls := ⟨c.name, c.teacher, outN c.studs nm⟩
def leaveM (r : Rol) (nm : ByteArray) : Except Nat Rol :=
  if hasN r.names nm = false then .error 10
  else if (r.cs.any fun c => decide (c.teacher = nm)) = true then .error 16
  else .ok ⟨r.ms.take (plc r.names nm) ++ r.ms.drop (plc r.names nm + 1), r.cs.map (lvC nm)⟩
/-- The students of a class as they stand in round k. -/
def stu (nm : ByteArray) (k i : Nat) (l : List ByteArray) : List ByteArray := if i < k then outN l nm else l
structure LvL (base : Nat) (W w : World) (cs : List Cls) (nm : ByteArray) (k : Nat) (rs : List CRaw) (ms : List Mem) (vm vc : Value) : Prop where
  rm : w.ownsRow base 45 3 vm ms.length (cellsOf encM ms)
  rc : w.ownsRow base 53 3 vc cs.length (cellsOf encC rs)
  len : rs.length = cs.length
  nms : ∀ (i : Nat) (h : i < rs.length) (h2 : i < cs.length), rs[i].name = cs[i].name ∧ rs[i].teacher = cs[i].teacher
  own : ∀ (i : Nat) (h : i < rs.length) (h2 : i < cs.length), w.ownsRow base 9 1 rs[i].studs (stu nm k i cs[i].studs).length ((stu nm k i cs[i].studs).map Value.string) ∧ ∀ b, rs[i].studs.ownBlock = some b → vm.ownBlock ≠ some b ∧ vc.ownBlock ≠ some b
  dis : ∀ (i j : Nat) (h : i < rs.length) (h2 : j < rs.length), i < j → ∀ b, rs[i].studs.ownBlock = some b → rs[j].studs.ownBlock ≠ some b
  ne : ∀ q, vm.ownBlock = some q → vc.ownBlock ≠ some q
  bel : Below W.heap.size W w
  box : w.heap[W.heap.size]? = some (.cells #[vm, vc] 27 (0, 0))
  nam : w.heap[W.heap.size + 1]? = some (.cells #[.string nm] 9 (0, 0))
  res : w.heap[W.heap.size + 2]? = some (.cells #[.slice none 0 0, .slice none 0 0] 27 (0, 0))
  low : W.heap.size + 3 ≤ base
  hi : base ≤ w.heap.size
theorem LvL.under {base : Nat} {W w w' : World} {cs : List Cls} {nm : ByteArray} {k : Nat} {rs : List CRaw} {ms : List Mem} {vm vc : Value} (h : LvL base W w cs nm k rs ms vm vc) (b : Below w.heap.size w w') : LvL base W w' cs nm k rs ms vm vc :=
  ⟨own_keep h.rm fun q hq => b.block q (Gn.own_lt h.rm q hq), own_keep h.rc fun q hq => b.block q (Gn.own_lt h.rc q hq), h.len, h.nms, fun i h1 h2 => ⟨own_keep (h.own i h1 h2).1 fun q hq => b.block q (Gn.own_lt (h.own i h1 h2).1 q hq), (h.own i h1 h2).2⟩, h.dis, h.ne, h.bel.trans (b.mono h.bel.size), (b.block _ (Gn.heap_lt h.box)).trans h.box, (b.block _ (Gn.heap_lt h.nam)).trans h.nam, (b.block _ (Gn.heap_lt h.res)).trans h.res, h.low, Nat.le_trans h.hi b.size⟩
theorem stu_at (nm : ByteArray) (k : Nat) (l : List ByteArray) : stu nm k k l = l := if_neg (Nat.lt_irrefl k)
theorem stu_next (nm : ByteArray) (k : Nat) (l : List ByteArray) : stu nm (k + 1) k l = outN l nm := if_pos (Nat.lt_succ_self k)
theorem stu_else (nm : ByteArray) {k i : Nat} (h : i ≠ k) (l : List ByteArray) : stu nm (k + 1) i l = stu nm k i l := by
  unfold stu
  by_cases h1 : i < k
  · rw [if_pos h1, if_pos (by omega)]
  · rw [if_neg h1, if_neg (by omega)]
/-- One class more. -/
theorem LvL.next {base : Nat} {W w w' : World} {cs : List Cls} {nm : ByteArray} {k : Nat} {rs : List CRaw} {ms : List Mem} {vm sv' : Value} {g4 m c4 : Nat} {cur : Array Value} (hm : m = cs.length) (h : LvL base W w cs nm k rs ms vm (.slice (some ⟨g4, 0, none⟩) m c4)) (hk : k < cs.length) (hkr : k < rs.length) (hcur : w.heap[g4]? = some (.cells cur 53 (0, 0)))
    (hp : PartS base g4 (k * 3) 53 cur (outN cs[k].studs nm) rs[k].studs w w' sv') : LvL base W w' cs nm (k + 1) (rs.set k ⟨rs[k].name, rs[k].teacher, sv'⟩) ms vm (.slice (some ⟨g4, 0, none⟩) m c4) := by
  subst hm
  obtain ⟨o1, o2⟩ := h.own k hkr hk
  have hg4 : base ≤ g4 := Gn.own_block h.rc g4 rfl
  have hlow := h.low
  have hhi := h.hi
  have hsb : ∀ q, rs[k].studs.ownBlock = some q → base ≤ q := fun q hq => Gn.own_block o1 q hq
  have hkp : ∀ q, q < w.heap.size → q ≠ g4 → rs[k].studs.ownBlock ≠ some q → w'.heap[q]? = w.heap[q]? := hp.keep
  have hlo : ∀ q, q < base → w'.heap[q]? = w.heap[q]? := fun q hq => hkp q (by omega) (by omega) (fun e => by have := hsb q e; omega)
  have hbw : Below W.heap.size W w' := ⟨hp.os.trans h.bel.os, hp.tape.trans h.bel.tape, hp.output.trans h.bel.output, Nat.le_trans h.bel.size hp.size, fun q hq => (hlo q (by omega)).trans (h.bel.block q hq)⟩
  refine ⟨own_keep h.rm fun q hq => hkp q (Gn.own_lt h.rm q hq) (fun e => h.ne q hq (by rw [e]; rfl)) (fun e => (o2 q e).1 hq), ?_, by rw [List.length_set]; exact h.len, fun i h1 h2 => ?_, fun i h1 h2 => ?_, fun i j h1 h2 hij b hb => ?_, h.ne, hbw, (hlo _ (by omega)).trans h.box, (hlo _ (by omega)).trans h.nam, (hlo _ (by omega)).trans h.res, h.low, Nat.le_trans h.hi hp.size⟩
  · refine own_keep (own_studs h.rc h.len hkr sv') fun q hq => ?_
    have e9 : g4 = q := Option.some.inj hq
    subst e9
    exact hp.row.trans (Gn.heap_set hcur (k * 3 + 2) sv').symm
  · have h1' : i < rs.length := by simpa using h1
    by_cases hik : i = k
    · subst hik
      rw [List.getElem_set_self]
      exact h.nms i h1' h2
    · rw [List.getElem_set_ne (fun e => hik e.symm)]
      exact h.nms i h1' h2
  · have h1' : i < rs.length := by simpa using h1
    by_cases hik : i = k
    · subst hik
      rw [List.getElem_set_self, stu_next]
      exact ⟨hp.own, fun b hb => o2 b (by rw [← hp.blk]; exact hb)⟩
    · rw [List.getElem_set_ne (fun e => hik e.symm), stu_else nm hik]
      obtain ⟨p1, p2⟩ := h.own i h1' h2
      refine ⟨own_keep p1 fun q hq => hkp q (Gn.own_lt p1 q hq) (fun e => (p2 q hq).2 (by rw [e]; rfl)) (fun e => ?_), p2⟩
      rcases Nat.lt_or_ge i k with h9 | h9
      · exact h.dis i k h1' hkr h9 q hq e
      · exact h.dis k i hkr h1' (by omega) q e hq
  · have h1' : i < rs.length := by simpa using h1
    have h2' : j < rs.length := by simpa using h2
    have hb1 : rs[i].studs.ownBlock = some b := by
      by_cases hik : i = k
      · subst hik
        rw [List.getElem_set_self] at hb
        rw [← hp.blk]; exact hb
      · rw [List.getElem_set_ne (fun e => hik e.symm)] at hb
        exact hb
    intro hc
    have hc1 : rs[j].studs.ownBlock = some b := by
      by_cases hik : j = k
      · subst hik
        rw [List.getElem_set_self] at hc
        rw [← hp.blk]; exact hc
      · rw [List.getElem_set_ne (fun e => hik e.symm)] at hc
        exact hc
    exact h.dis i j h1' h2' hij b hb1 hc1
/-- Behind the last class. -/
theorem LvL.done {base : Nat} {W w w' : World} {cs : List Cls} {nm : ByteArray} {k : Nat} {rs : List CRaw} {ms : List Mem} {vm vc : Value} (h : LvL base W w cs nm k rs ms vm vc) (hk : k = cs.length) (hs : w.heap.size ≤ w'.heap.size) (hq : ∀ q, base ≤ q → q < w.heap.size → w'.heap[q]? = w.heap[q]?) :
    RlAt (fun b => base ≤ b) w' ⟨ms, cs.map (lvC nm)⟩ (.agg #[vm, vc]) := by
  have hl := h.len
  refine rl_done (r := ⟨ms, cs.map (lvC nm)⟩) (own_keep h.rm fun q hq9 => hq q (Gn.own_block h.rm q hq9) (Gn.own_lt h.rm q hq9)) (by rw [List.length_map]; exact own_keep h.rc fun q hq9 => hq q (Gn.own_block h.rc q hq9) (Gn.own_lt h.rc q hq9)) ⟨by rw [List.length_map]; exact hl, fun i h1 h2 => ?_⟩
  have h2' : i < cs.length := by simpa using h2
  obtain ⟨n1, n2⟩ := h.nms i h1 h2'
  obtain ⟨o1, _⟩ := h.own i h1 h2'
  have hst : stu nm k i cs[i].studs = outN cs[i].studs nm := if_pos (by omega)
  rw [hst] at o1
  simp only [List.getElem_map]
  exact ⟨n1, n2, strs_own (own_keep o1 fun q hq9 => hq q (Gn.own_block o1 q hq9) (Gn.own_lt o1 q hq9))⟩
end Go.Proofs.YtnmhgjoofgmcgaaGreat.Rl

namespace Go.Proofs.YtnmhgjoofgmcgaaGreat.Rl
open Go.RowKit
open Fx (StrsAt)
set_option maxRecDepth 100000
set_option linter.unusedSimpArgs false
set_option linter.unusedVariables false
set_option maxHeartbeats 16000000 in
theorem leave_any (r : Rol) (nm : ByteArray) (hsz : Sized r) (P : Nat → Prop) (W : World) (v : Value) (h : RlAt P W r v) :
    Calls Tryz.prog 21 #[v, .string nm] W (OpOut W (leaveM r nm)) := by
  obtain ⟨Am, cm, Ac, cc, rfl, hms, hcs⟩ := h.form
  obtain ⟨n, hnn⟩ : ∃ n, n = r.ms.length := ⟨_, rfl⟩
  obtain ⟨m, hmm⟩ : ∃ m, m = r.cs.length := ⟨_, rfl⟩
  rw [← hnn, ← hmm] at h ⊢
  obtain ⟨raws0, hrow0, hall0⟩ := hcs
  rw [← hmm] at hrow0
  obtain ⟨V, hV⟩ : ∃ V, V = ((W.alloc (.cells #[.slice Am n cm, .slice Ac m cc] 27)).alloc (.cells #[.string nm] 9)).alloc (.cells #[.slice none 0 0, .slice none 0 0] 27) := ⟨_, rfl⟩
  have hb : Below W.heap.size W V := by rw [hV]; exact (((Below.refl _ W).alloc (Nat.le_refl _) _).alloc (by simp) _).alloc (by simp; omega) _
  have hz : V.heap.size = W.heap.size + 3 := by rw [hV]; simp
  have hx0 : V.heap[W.heap.size]? = some (.cells #[.slice Am n cm, .slice Ac m cc] 27 (0, 0)) := by rw [hV]; exact (heap_alloc_old _ _ (by simp; omega)).trans ((heap_alloc_old _ _ (by simp)).trans (heap_alloc_new W _))
  have hxn : V.heap[W.heap.size + 1]? = some (.cells #[.string nm] 9 (0, 0)) := by
    rw [hV]; exact (heap_alloc_old _ _ (by simp)).trans (by have := heap_alloc_new (W.alloc (.cells #[.slice Am n cm, .slice Ac m cc] 27)) (.cells #[.string nm] 9); simpa using this)
  have hx1 : V.heap[W.heap.size + 1 + 1]? = some (.cells #[.slice none 0 0, .slice none 0 0] 27 (0, 0)) := by
    rw [hV]; have := heap_alloc_new ((W.alloc (.cells #[.slice Am n cm, .slice Ac m cc] 27)).alloc (.cells #[.string nm] 9)) (.cells #[.slice none 0 0, .slice none 0 0] 27); simpa using this
  obtain ⟨k, hk⟩ : ∃ k, k = plc r.names nm := ⟨_, rfl⟩
  obtain ⟨fd, hfd⟩ : ∃ fd, fd = hasN r.names nm := ⟨_, rfl⟩
  obtain ⟨tb, htb⟩ : ∃ tb, tb = r.cs.any fun c => decide (c.teacher = nm) := ⟨_, rfl⟩
  have HMB := Lib.hid (member_any r nm P V (.agg #[.slice Am n cm, .slice Ac m cc]) (h.under hb) hsz.names (by have := hsz.ms; omega))
  rw [← hk, ← hfd] at HMB
  have HCT := Lib.hid (fun (w : World) (b : Below V.heap.size V w) => show Calls Tryz.prog 50 #[.slice Ac m cc, .func (.func 58) #[] #[.pointer (some ⟨W.heap.size + 1, 0, none⟩)]] w (fun e w' => e = .returned (.bool tb) ∧ Below w.heap.size w w') by
    have hC := containsC raws0 P w (.slice Ac m cc) ((RowAt.under hrow0 hb).under b) (by have := hall0.1; have := hsz.cs; omega) (fun i => decide ((r.cs.getD i nilC).teacher = nm)) 58 #[.pointer (some ⟨W.heap.size + 1, 0, none⟩)] (fun args w => by kernel_rfl) (fun w2 i hi hw => by
      have hi2 : i < r.cs.length := by rw [← hall0.1]; exact hi
      obtain ⟨n1, n2, n3⟩ := hall0.2 i hi hi2
      have hg : r.cs.getD i nilC = r.cs[i] := by rw [List.getD_eq_getElem?_getD, List.getElem?_eq_getElem hi2]; rfl
      simp only [hg]
      rw [← n2]
      obtain ⟨A9, c9, h9⟩ := n3.form
      exact leave1_any raws0[i].name raws0[i].teacher raws0[i].studs A9 _ c9 h9 nm w2 _ (cell_of_row _ _ 0 _ _ (0, 0) (((hw.block _ (Gn.heap_lt ((b.block _ (Gn.heap_lt hxn)).trans hxn))).trans (b.block _ (Gn.heap_lt hxn))).trans hxn)))
    rw [any_row r.cs (fun c => decide (c.teacher = nm)) raws0.length hall0.1 nilC, ← htb] at hC
    exact hC)
  have HCO := Lib.hid (fun (w : World) (b : Below W.heap.size W w) => copied_any r P w (.agg #[.slice Am n cm, .slice Ac m cc]) (h.under b) (by have := hsz.ms; omega) (by have := hsz.cs; omega) (fun c hc => by have := hsz.studs c hc; omega))
  have hRe : leaveM r nm = if fd = false then .error 10 else if tb = true then .error 16 else .ok ⟨r.ms.take k ++ r.ms.drop (k + 1), r.cs.map (lvC nm)⟩ := by
    unfold leaveM
    rw [← hfd, ← hk, ← htb]
  have hkc : fd = true → k < r.ms.length := fun e => by rw [hfd] at e; rw [hk]; exact plc_lt hsz.names e
  have hn4 : n ≤ 4000 := by rw [hnn]; exact hsz.ms
  have HKC := Lib.hid hkc
  have HSZ := Lib.hid hsz
  have HRE := Lib.hid hRe
  have HNN := Lib.hid hnn
  have HMM := Lib.hid hmm
  have HV := Lib.hid hV
  have HB := Lib.hid hb
  have HX0 := Lib.hid hx0
  have HXN := Lib.hid hxn
  have HX1 := Lib.hid hx1
  have HZ := Lib.hid hz
  have x0 := cell_of_row _ _ 0 _ _ (0, 0) hx0
  have x1 := cell_of_row _ _ 1 _ _ (0, 0) hx0
  have xn := cell_of_row _ _ 0 _ _ (0, 0) hxn
  clear hV hb hx0 hxn hx1 hz h hnn hmm hk hfd htb hRe hsz hkc hrow0 hall0 hms
  go_enter Tryz.func21, Tryz.ntmps21
  go_upto_region 1 with fail
  rw [← HV.out]
  go_wp2_with fail
  refine HMB.out.mono ?_
  rintro e w2 ⟨rfl, hb2⟩
  have hy0 := (hb2.block _ (Gn.heap_lt HX0.out)).trans HX0.out
  have hy1 := (hb2.block _ (Gn.heap_lt HX1.out)).trans HX1.out
  have HY0 := Lib.hid hy0
  have HY1 := Lib.hid hy1
  have HB2 := Lib.hid (HB.out.trans (hb2.mono HB.out.size))
  have HV2 := Lib.hid hb2
  have r0 := cell_of_row _ _ 0 _ _ (0, 0) hy1
  have r1 := cell_of_row _ _ 1 _ _ (0, 0) hy1
  have g0 := Gn.frozen_row hy1 0
  have g1 := Gn.frozen_row hy1 1
  have HRS := Lib.hid (Gn.heap_set (Gn.heap_set hy1 0 (.slice none 0 0)) 1 (.slice none 0 0))
  have HBE := Lib.hid ((HB2.out.setCell (p := ⟨W.heap.size + 1 + 1, 0, none⟩) (by simp; omega) (.slice none 0 0)).setCell (p := ⟨W.heap.size + 1 + 1, 1, none⟩) (by simp; omega) (.slice none 0 0))
  clear hb2 hy0 hy1 x0 x1 xn
  cases fd with
  | false =>
    have HR := Lib.hid (show leaveM r nm = .error 10 by rw [HRE.out]; rfl)
    go_wp2_with fail
    refine bodyPost_ret (results_ct (P := Tryz.prog) rfl _ _ (W.heap.size + 1 + 1) 27 _ (0, 0) _ _ rfl rfl HRS.out Tryz.underlying27 rfl (by kernel_rfl)) rfl ?_
    rw [HR.out]
    exact ⟨_, rfl, rl_zero _ _, HBE.out⟩
  | true =>
    have y0 := cell_of_row _ _ 0 _ _ (0, 0) HY0.out
    have y1 := cell_of_row _ _ 1 _ _ (0, 0) HY0.out
    clear r0 r1 g0 g1
    go_wp2_with fail
    refine (HCT.out w2 HV2.out).mono ?_
    rintro e w21 ⟨rfl, hb21⟩
    have HXN := Lib.hid ((hb21.block _ (by have := HV2.out.size; have := Gn.heap_lt HXN.out; omega)).trans ((HV2.out.block _ (Gn.heap_lt HXN.out)).trans HXN.out))
    have HY0 := Lib.hid ((hb21.block _ (Gn.heap_lt HY0.out)).trans HY0.out)
    have HY1 := Lib.hid ((hb21.block _ (Gn.heap_lt HY1.out)).trans HY1.out)
    have HB2 := Lib.hid (HB2.out.trans (hb21.mono HB2.out.size))
    clear hb21 y0 y1 HRS HBE
    have r0 := cell_of_row _ _ 0 _ _ (0, 0) HY1.out
    have r1 := cell_of_row _ _ 1 _ _ (0, 0) HY1.out
    have g0 := Gn.frozen_row HY1.out 0
    have g1 := Gn.frozen_row HY1.out 1
    have HRS := Lib.hid (Gn.heap_set (Gn.heap_set HY1.out 0 (.slice none 0 0)) 1 (.slice none 0 0))
    have HBE := Lib.hid ((HB2.out.setCell (p := ⟨W.heap.size + 1 + 1, 0, none⟩) (by simp; omega) (.slice none 0 0)).setCell (p := ⟨W.heap.size + 1 + 1, 1, none⟩) (by simp; omega) (.slice none 0 0))
    cases tb with
    | true =>
      have HR := Lib.hid (show leaveM r nm = .error 16 by rw [HRE.out]; rfl)
      go_wp2_with fail
      refine bodyPost_ret (results_ct (P := Tryz.prog) rfl _ _ (W.heap.size + 1 + 1) 27 _ (0, 0) _ _ rfl rfl HRS.out Tryz.underlying27 rfl (by kernel_rfl)) rfl ?_
      rw [HR.out]
      exact ⟨_, rfl, rl_zero _ _, HBE.out⟩
    | false =>
      have hkc := HKC.out (by simp)
      have hkn : k < n := by rw [HNN.out]; exact hkc
      have hkn2 : (k : Int) < (n : Int) := by omega
      have hw1 : IntKind.i64.wrap ((k : Int) + 1) = ((k + 1 : Nat) : Int) := IntWalk.i64_in _ (by omega)
      obtain ⟨ms1, hms1⟩ : ∃ ms1, ms1 = r.ms.take k ++ r.ms.drop (k + 1) := ⟨_, rfl⟩
      have hl1 : ms1.length = n - 1 := by rw [hms1, List.length_append, List.length_take, List.length_drop, HNN.out]; omega
      have hc1 : cellsOf encM ms1 = (cellsOf encM r.ms).take (k * 3) ++ (cellsOf encM r.ms).drop ((k + 1) * 3) := by
        rw [hms1, cellsOf_app, cellsOf_take encM_len _ _ (by omega), cellsOf_drop encM_len _ _ (by omega)]
      have HR := Lib.hid (show leaveM r nm = .ok ⟨ms1, r.cs.map (lvC nm)⟩ by rw [HRE.out, hms1]; rfl)
      have HL1 := Lib.hid hl1
      have HC1 := Lib.hid hc1
      have y0 := cell_of_row _ _ 0 _ _ (0, 0) HY0.out
      have y1 := cell_of_row _ _ 1 _ _ (0, 0) HY0.out
      clear r0 r1 g0 g1 hms1 hl1 hc1
      go_wp2_with fail
      refine (HCO.out w21 HB2.out).mono ?_
      rintro e w3 ⟨raws, vm, vc, rfl, hco, hb3⟩
      have hcm := hco.ms
      have hcc := hco.cs
      rw [← HNN.out] at hcm
      rw [← HMM.out] at hcc
      obtain ⟨A3, c3, rfl⟩ := Gn.slice_of hcm
      obtain ⟨A4, c4, rfl⟩ := Gn.slice_of hcc
      obtain ⟨g3, rfl⟩ : ∃ g3, A3 = some ⟨g3, 0, none⟩ := by
        rcases hcm.2 with ⟨_, h0⟩ | ⟨g3, _, _, h0, _⟩
        · omega
        · injection h0 with h0
          exact ⟨g3, h0⟩
      have hz9 : W.heap.size + 2 < w21.heap.size := Gn.heap_lt HY1.out
      have hq0 := (hb3.block _ (Gn.heap_lt HY0.out)).trans HY0.out
      have hqn := (hb3.block _ (Gn.heap_lt HXN.out)).trans HXN.out
      have hq1 := (hb3.block _ (Gn.heap_lt HY1.out)).trans HY1.out
      obtain ⟨W4, hW4⟩ : ∃ W4, W4 = (w3.setCell ⟨W.heap.size, 0, none⟩ (.slice (some ⟨g3, 0, none⟩) n c3)).setCell ⟨W.heap.size, 1, none⟩ (.slice A4 m c4) := ⟨_, rfl⟩
      have hk4 : ∀ b, W.heap.size ≠ b → W4.heap[b]? = w3.heap[b]? := fun b hb => by rw [hW4]; exact (Gn.set_keep _ _ _ hb).trans (Gn.set_keep _ _ _ hb)
      have hs4 : W4.heap.size = w3.heap.size := by rw [hW4]; simp [World.setCell]
      have hp0 : W4.heap[W.heap.size]? = some (.cells #[.slice (some ⟨g3, 0, none⟩) n c3, .slice A4 m c4] 27 (0, 0)) := by rw [hW4]; exact Gn.heap_set (Gn.heap_set hq0 0 _) 1 _
      have hpn : W4.heap[W.heap.size + 1]? = some (.cells #[.string nm] 9 (0, 0)) := (hk4 _ (by omega)).trans hqn
      have hp1 : W4.heap[W.heap.size + 2]? = some (.cells #[.slice none 0 0, .slice none 0 0] 27 (0, 0)) := (hk4 _ (by omega)).trans hq1
      have hb4 : Below W.heap.size W W4 := by rw [hW4]; exact ((HB2.out.trans (hb3.mono HB2.out.size)).setCell (Nat.le_refl _) _).setCell (Nat.le_refl _) _
      have hom : W4.ownsRow w21.heap.size 45 3 (.slice (some ⟨g3, 0, none⟩) n c3) n (cellsOf encM r.ms) := own_keep hcm fun q hq => hk4 q (by have := Gn.own_block hcm q hq; omega)
      have hoc : W4.ownsRow w21.heap.size 53 3 (.slice A4 m c4) m (cellsOf encC raws) := own_keep hcc fun q hq => hk4 q (by have := Gn.own_block hcc q hq; omega)
      have hown : ∀ (i : Nat) (h : i < raws.length) (h2 : i < r.cs.length), W4.ownsRow w21.heap.size 9 1 raws[i].studs r.cs[i].studs.length (r.cs[i].studs.map Value.string) ∧ ∀ b, raws[i].studs.ownBlock = some b → (Value.slice (some ⟨g3, 0, none⟩) n c3).ownBlock ≠ some b ∧ (Value.slice A4 m c4).ownBlock ≠ some b := fun i h h2 => ⟨own_keep (hco.own i h h2).1 fun q hq => hk4 q (by have := Gn.own_block (hco.own i h h2).1 q hq; omega), (hco.own i h h2).2⟩
      have hrl : raws.length = r.cs.length := hco.all.1
      have hnm9 := fun i h h2 => (⟨(hco.all.2 i h h2).1, (hco.all.2 i h h2).2.1⟩ : raws[i].name = r.cs[i].name ∧ raws[i].teacher = r.cs[i].teacher)
      have hdis := hco.dis
      have hne := hco.ne
      have hs24 : w21.heap.size ≤ W4.heap.size := by rw [hs4]; exact hb3.size
      have HDE := Lib.hid (del_Mem w21.heap.size W4 g3 c3 n k (cellsOf encM r.ms) hom (by omega) hkn (cell_one encM_one r.ms) hs24)
      have HP0 := Lib.hid hp0
      have HPN := Lib.hid hpn
      have HP1 := Lib.hid hp1
      have HB4 := Lib.hid hb4
      have HOM := Lib.hid hom
      have HOC := Lib.hid hoc
      have HOWN := Lib.hid hown
      have HNM9 := Lib.hid hnm9
      have HDIS := Lib.hid hdis
      have HNE := Lib.hid hne
      have HS24 := Lib.hid hs24
      have HZ9 := Lib.hid hz9
      have HRL := Lib.hid hrl
      have c0 := cell_of_row _ _ 0 _ _ (0, 0) hq0
      have c1 := cell_of_row _ _ 1 _ _ (0, 0) hq0
      have d0 := Gn.frozen_row hq0 0
      have d1 := Gn.frozen_row hq0 1
      have HW4 := Lib.hid hW4
      clear hcm hcc hco hb3 hq0 hqn hq1 hk4 hs4 hp0 hpn hp1 hb4 hom hoc hown hnm9 hdis hne hs24 hW4 y0 y1 hz9 hrl
      go_upto_region 7 with fail
      clear c0 c1 d0 d1
      rw [← HW4.out]
      have c0 := cell_of_row _ _ 0 _ _ (0, 0) HP0.out
      go_wp2_with fail
      refine HDE.out.mono ?_
      rintro e w6 ⟨rfl, ho6, hg6⟩
      have hg39 : w21.heap.size ≤ g3 := Gn.own_block HOM.out g3 rfl
      have hz9 := HZ9.out
      have h64 : ∀ q, q < W4.heap.size → q ≠ g3 → w6.heap[q]? = W4.heap[q]? := fun q hq hne => hg6.block q hq (fun e => hne (Option.some.inj e))
      have hp0 : w6.heap[W.heap.size]? = some (.cells #[.slice (some ⟨g3, 0, none⟩) n c3, .slice A4 m c4] 27 (0, 0)) := (h64 _ (Gn.heap_lt HP0.out) (by omega)).trans HP0.out
      obtain ⟨W7, hW7⟩ : ∃ W7, W7 = w6.setCell ⟨W.heap.size, 0, none⟩ (.slice (some ⟨g3, 0, none⟩) (n - 1) c3) := ⟨_, rfl⟩
      have hk7 : ∀ b, W.heap.size ≠ b → W7.heap[b]? = w6.heap[b]? := fun b hb => by rw [hW7]; exact Gn.set_keep _ _ _ hb
      have hs7 : W7.heap.size = w6.heap.size := by rw [hW7]; simp [World.setCell]
      have hlv : LvL w21.heap.size W W7 r.cs nm 0 raws ms1 (.slice (some ⟨g3, 0, none⟩) (n - 1) c3) (.slice A4 m c4) := by
        have h67 : ∀ q, w21.heap.size ≤ q → q < W4.heap.size → q ≠ g3 → W7.heap[q]? = W4.heap[q]? := fun q h1 h2 h3 => (hk7 q (by omega)).trans (h64 q h2 h3)
        refine ⟨?_, ?_, HRL.out, HNM9.out, fun i h1 h2 => ?_, HDIS.out, fun q hq => HNE.out q hq, ?_, by rw [hW7]; exact Gn.heap_set hp0 0 _, (hk7 _ (by omega)).trans ((h64 _ (Gn.heap_lt HPN.out) (by omega)).trans HPN.out), (hk7 _ (by omega)).trans ((h64 _ (Gn.heap_lt HP1.out) (by omega)).trans HP1.out), by omega, by rw [hs7]; exact Nat.le_trans HS24.out hg6.size⟩
        · rw [HL1.out, HC1.out]
          exact own_keep ho6 fun q hq => hk7 q (by have := Gn.own_block ho6 q hq; omega)
        · rw [← HMM.out]
          exact own_keep HOC.out fun q hq => h67 q (Gn.own_block HOC.out q hq) (Gn.own_lt HOC.out q hq) (fun e => HNE.out g3 rfl (by rw [← e]; exact hq))
        · obtain ⟨o1, o2⟩ := HOWN.out i h1 h2
          rw [show stu nm 0 i r.cs[i].studs = r.cs[i].studs from if_neg (Nat.not_lt_zero i)]
          exact ⟨own_keep o1 fun q hq => h67 q (Gn.own_block o1 q hq) (Gn.own_lt o1 q hq) (fun e => (o2 q hq).1 (by rw [e]; rfl)), o2⟩
        · rw [hW7]
          refine Below.setCell ⟨hg6.os.trans HB4.out.os, hg6.tape.trans HB4.out.tape, hg6.output.trans HB4.out.output, Nat.le_trans HB4.out.size hg6.size, fun q hq => (h64 q (by have := HB4.out.size; omega) (by omega)).trans (HB4.out.block q hq)⟩ (Nat.le_refl _) _
      have HLV := Lib.hid hlv
      have a0 := cell_of_row _ _ 0 _ _ (0, 0) hp0
      have af := Gn.frozen_row hp0 0
      have p1 := cell_of_row _ _ 1 _ _ (0, 0) hlv.box
      have HW7 := Lib.hid hW7
      obtain ⟨base, hbase⟩ : ∃ base, base = w21.heap.size := ⟨_, rfl⟩
      rw [← hbase] at HLV
      have HM4 := Lib.hid HSZ.out.cs
      clear ho6 hg6 hg39 hz9 h64 hp0 hk7 hs7 hlv hW7 c0 hbase
      go_upto_region 8 with fail
      rw [← HW7.out]
      clear a0 af
      go_wp2_with fail
      go_loopw [37] (fun x wr => ∃ (j : Nat) (rs : List CRaw), j ≤ m ∧ x = .int .i64 j ∧ LvL base W wr r.cs nm j rs ms1 (.slice (some ⟨g3, 0, none⟩) (n - 1) c3) (.slice A4 m c4)) (fun x _ => m - (intOf x).toNat)
      case atStart => exact ⟨0, raws, Nat.zero_le _, rfl, HLV.out⟩
      case round =>
        obtain ⟨j, rs, hjm, rfl, hcl⟩ := hrel
        have HCL := Lib.hid hcl
        clear hcl p1
        by_cases hlt : j < m
        · have hlt2 : (j : Int) < (m : Int) := by omega
          have hkc9 : j < r.cs.length := by rw [← HMM.out]; exact hlt
          have hkr : j < rs.length := by rw [HCL.out.len]; exact hkc9
          obtain ⟨g4, rfl⟩ : ∃ g4, A4 = some ⟨g4, 0, none⟩ := by
            rcases HCL.out.rc.2 with ⟨_, h0⟩ | ⟨g4, _, _, h0, _⟩
            · omega
            · injection h0 with h0
              exact ⟨g4, h0⟩
          have hmem := List.getElem_mem hkc9
          have hw1 : IntKind.i64.wrap ((j : Int) + 1) = ((j + 1 : Nat) : Int) := IntWalk.i64_in _ (by have := HM4.out; have := HMM.out; omega)
          have HPA := Lib.hid (fun (w : World) (hl : LvL base W w r.cs nm j rs ms1 (.slice (some ⟨g3, 0, none⟩) (n - 1) c3) (.slice (some ⟨g4, 0, none⟩) m c4)) => show Calls Tryz.prog 60 #[.pointer (some ⟨g4, j * 3, none⟩), .string nm] w (fun e w' => e = .returned (.tuple #[]) ∧ (∃ sv', LvL base W w' r.cs nm (j + 1) (rs.set j ⟨rs[j].name, rs[j].teacher, sv'⟩) ms1 (.slice (some ⟨g3, 0, none⟩) (n - 1) c3) (.slice (some ⟨g4, 0, none⟩) m c4))) by
            have hoc : w.ownsRow base 53 3 (.slice (some ⟨g4, 0, none⟩) m c4) m (cellsOf encC rs) := by rw [HMM.out]; have := hl.rc; rwa [← HMM.out] at this ⊢
            obtain ⟨cur4, hcur4, hcsz4⟩ := own_heap hoc
            obtain ⟨o1, o2⟩ := hl.own j hkr hkc9
            rw [stu_at] at o1
            have hc4 : w.cell? ⟨g4, j * 3 + 2, none⟩ = some rs[j].studs := by
              obtain ⟨A7, c7, b7, h7, _, _, h7c, h7d⟩ := RowAt.of_own (l := rs) encC_len (by rw [hl.len, ← HMM.out]; exact hoc)
              rw [hl.len, ← HMM.out] at h7
              injection h7 with h7
              obtain ⟨e7, _, _⟩ := h7c (by omega)
              rw [e7] at h7
              injection h7 with h7
              injection h7 with h7
              rw [h7]
              exact h7d j hkr 2 _ rfl
            refine (part_any base g4 (j * 3) r.cs[j].studs nm w rs[j].studs cur4 53 hcur4 hc4 o1 hl.hi (HSZ.out.rising _ hmem) (HSZ.out.studs _ hmem) (fun e => (o2 g4 e).2 rfl)).mono ?_
            rintro e w' ⟨rfl, sv', hps⟩
            exact ⟨rfl, sv', hl.next HMM.out hkc9 hkr hcur4 hps⟩)
          have HMK := Lib.hid (fun (w' : World) (hbx : w'.heap[W.heap.size]? = some (.cells #[.slice (some ⟨g3, 0, none⟩) (n - 1) c3, .slice (some ⟨g4, 0, none⟩) m c4] 27 (0, 0))) (hnx : w'.heap[W.heap.size + 1]? = some (.cells #[.string nm] 9 (0, 0))) => show (fun w' : World => w'.cell? ⟨W.heap.size, 1, none⟩ = some (.slice (some ⟨g4, 0, none⟩) m c4) ∧ w'.cell? ⟨W.heap.size + 1, 0, none⟩ = some (.string nm)) w' from ⟨cell_of_row _ _ 1 _ _ (0, 0) hbx, cell_of_row _ _ 0 _ _ (0, 0) hnx⟩)
          have HKR := Lib.hid hkr
          clear hkc9 hmem
          go_upto_region 11 with fail
          refine wp_region_noPanic ?_
          refine wp_region_held_drew (S := (fun w' : World => w'.cell? ⟨W.heap.size, 1, none⟩ = some (.slice (some ⟨g4, 0, none⟩) m c4) ∧ w'.cell? ⟨W.heap.size + 1, 0, none⟩ = some (.string nm))) (by kernel_rfl) ?_ (fun hHeld => ?_)
          · exact HMK.out _ HCL.out.box HCL.out.nam
          refine wpAnyH_take (i := 0) (v := ?_) rfl (by kernel_rfl) (by kernel_rfl) (by kernel_rfl) (fun _ _ _ h => h) (Or.inl ⟨by rfl, ?_⟩) (by assumption) ?_
          rotate_left
          · intro w hSw
            try dsimp only at hSw
            go_simp
            try with_reducible rfl
          try simp only [Act.put, List.setIfInBounds_toArray, List.set_cons_zero, List.set_cons_succ]
          refine wpAnyH_take (i := 1) (v := ?_) rfl (by kernel_rfl) (by kernel_rfl) (by kernel_rfl) (fun _ _ _ h => h) (Or.inl ⟨by rfl, ?_⟩) (by assumption) ?_
          rotate_left
          · intro w hSw
            try dsimp only at hSw
            go_simp
            try with_reducible rfl
          try simp only [Act.put, List.setIfInBounds_toArray, List.set_cons_zero, List.set_cons_succ]
          refine wpAnyH_take (i := 2) (v := ?_) rfl (by kernel_rfl) (by kernel_rfl) (by kernel_rfl) (fun _ _ _ h => h) (Or.inl ⟨by rfl, ?_⟩) (by assumption) ?_
          rotate_left
          · intro w hSw
            try dsimp only at hSw
            go_simp
            try with_reducible rfl
          try simp only [Act.put, List.setIfInBounds_toArray, List.set_cons_zero, List.set_cons_succ]
          refine wpAnyH_take (i := 3) (v := ?_) rfl (by kernel_rfl) (by kernel_rfl) (by kernel_rfl) (fun _ _ _ h => h) (Or.inl ⟨by rfl, ?_⟩) (by assumption) ?_
          rotate_left
          · intro w hSw
            try dsimp only at hSw
            go_simp
            try with_reducible rfl
          try simp only [Act.put, List.setIfInBounds_toArray, List.set_cons_zero, List.set_cons_succ]
          refine wpAnyH_take (i := 4) (v := ?_) rfl (by kernel_rfl) (by kernel_rfl) (by kernel_rfl) (fun _ _ _ h => h) (Or.inl ⟨by rfl, ?_⟩) (by assumption) ?_
          rotate_left
          · intro w hSw
            try dsimp only at hSw
            go_simp
            try with_reducible rfl
          try simp only [Act.put, List.setIfInBounds_toArray, List.set_cons_zero, List.set_cons_succ]
          refine wpAnyH_ready (rs := [5]) (by kernel_rfl) (by simp) ?_
          refine AllReadyH.cons rfl (fun K hK => ?_) AllReadyH.nil
          go_simp
          go_at_call 60
          refine (HPA.out _ (HCL.out.under (Gn.below_drew (Below.refl wr.heap.size wr)))).mono ?_
          rintro e w8 ⟨rfl, sv8, hl8⟩
          have HL8 := Lib.hid hl8
          clear hl8
          refine hK.out _ _ (HMK.out _ HL8.out.box HL8.out.nam) (fun hHeld => ?_)
          clear hK K
          try simp only [Act.put, List.setIfInBounds_toArray, List.set_cons_zero, List.set_cons_succ]
          refine wpAnyH_done (by kernel_rfl) ?_ _
          refine NoPanic.normal ?_
          go_wp2_with fail
          go_roundw
          case rel => exact ⟨j + 1, _, by omega, by go_num, HL8.out⟩
          case measure => simp [intOf]; omega
        · have hlt2 : ¬ (j : Int) < (m : Int) := by omega
          have hke : j = m := by omega
          subst hke
          have hbx := HCL.out.box
          have hrs := HCL.out.res
          have b0 := cell_of_row _ _ 0 _ _ (0, 0) hbx
          have b1 := cell_of_row _ _ 1 _ _ (0, 0) hbx
          have r0 := cell_of_row _ _ 0 _ _ (0, 0) hrs
          have r1 := cell_of_row _ _ 1 _ _ (0, 0) hrs
          have g0 := Gn.frozen_row hrs 0
          have g1 := Gn.frozen_row hrs 1
          obtain ⟨W8, hW8⟩ : ∃ W8, W8 = (wr.setCell ⟨W.heap.size + 1 + 1, 0, none⟩ (.slice (some ⟨g3, 0, none⟩) (n - 1) c3)).setCell ⟨W.heap.size + 1 + 1, 1, none⟩ (.slice A4 j c4) := ⟨_, rfl⟩
          have hk8 : ∀ b, W.heap.size + 1 + 1 ≠ b → W8.heap[b]? = wr.heap[b]? := fun b h2 => by rw [hW8]; exact (Gn.set_keep _ _ _ h2).trans (Gn.set_keep _ _ _ h2)
          have hs8 : W8.heap.size = wr.heap.size := by rw [hW8]; simp [World.setCell]
          have hres : W8.heap[W.heap.size + 1 + 1]? = some (.cells #[.slice (some ⟨g3, 0, none⟩) (n - 1) c3, .slice A4 j c4] 27 (0, 0)) := by rw [hW8]; exact Gn.heap_set (Gn.heap_set hrs 0 _) 1 _
          have HRES := Lib.hid hres
          have HFIN := Lib.hid (show OpOut W (leaveM r nm) (.returned (.tuple #[.agg #[.slice (some ⟨g3, 0, none⟩) (n - 1) c3, .slice A4 j c4], .int .i64 0])) W8 from by
            rw [HR.out]
            have hlo := HCL.out.low
            exact ⟨_, rfl, (HCL.out.done HMM.out (by rw [hs8]; exact Nat.le_refl _) (fun q h1 h2 => hk8 q (by omega))).keep (Nat.le_refl _) (fun q hq _ => ⟨by omega, fun _ => rfl⟩), by rw [hW8]; exact (HCL.out.bel.setCell (by show W.heap.size ≤ W.heap.size + 1 + 1; omega) _).setCell (by show W.heap.size ≤ W.heap.size + 1 + 1; omega) _⟩)
          have HW8 := Lib.hid hW8
          clear hbx hrs hk8 hs8 hres hW8
          go_wp2_with fail
          rw [← HW8.out]
          refine bodyPost_ret (results_ct (P := Tryz.prog) rfl _ _ (W.heap.size + 1 + 1) 27 _ (0, 0) _ _ rfl rfl HRES.out Tryz.underlying27 rfl (by kernel_rfl)) rfl ?_
          exact HFIN.out
end Go.Proofs.YtnmhgjoofgmcgaaGreat.Rl
