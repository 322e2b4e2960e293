/-
  Layer 18: the document's Leave.
  Layer 18: the document's Close.
-/
import Derived.Test.YtnmhgjoofgmcgaaGreatRdE
import Derived.Deep.RegionHeld3
import Derived.Deep.DeepCutAuto

namespace Go.Proofs.YtnmhgjoofgmcgaaGreat.Rl
open Go.RowKit
open Fx (StrsAt)
set_option maxRecDepth 100000
set_option linter.unusedSimpArgs false
set_option linter.unusedVariables false
set_option maxHeartbeats 16000000 in
theorem dleave_any (r : Rol) (nm : ByteArray) (hsz : Sized r) (hne : hasN r.names nm = true → nm ≠ ⟨#[]⟩) (P : Nat → Prop) (W : World) (v : Value) (h : RlAt P W r v) :
    Calls Tryz.prog 27 #[v, .string nm] W (OpOut W (leaveM r nm)) := by
  have hn := hsz.ms
  have hm := hsz.cs
  have HST := Lib.hid hsz.studs
  have HCOP := Lib.hid (fun (w : World) (v : Value) (h : RlAt P w r v) => copy0_any r (by have := hsz.ms; omega) (by have := hsz.cs; omega) (fun c hc => by have := hsz.studs c hc; omega) P w v h)
  have HFI := Lib.hid (fun (nm : ByteArray) (w : World) (v : Value) (h : RlAt P w r v) => find2_any r nm hsz.names (by have := hsz.ms; omega) P w v h)
  have HOF := Lib.hid (fun (nm : ByteArray) (w : World) (v : Value) (h : RlAt P w r v) => of_any r nm P w v h hsz.classes (by have := hsz.cs; omega))
  have HEQ := Lib.hid bytes_eq
  have HSZ := Lib.hid hsz
  obtain ⟨Am, cm, Ac, cc, rfl, hms, hcs⟩ := h.form
  obtain ⟨raws, hrow, hall⟩ := hcs
  have hrl : raws.length = r.cs.length := hall.1
  obtain ⟨n, hnn⟩ : ∃ n, n = r.ms.length := ⟨_, rfl⟩
  obtain ⟨m, hmm⟩ : ∃ m, m = r.cs.length := ⟨_, rfl⟩
  rw [← hnn] at hms hn
  rw [← hmm] at hrow hm hrl
  rw [← hnn, ← hmm] at h ⊢
  obtain ⟨V, hV⟩ : ∃ V, V = (W.alloc (.cells #[.slice Am n cm, .slice Ac m cc] 31)).alloc (.cells #[.slice none 0 0, .slice none 0 0] 31) := ⟨_, rfl⟩
  have hb : Below W.heap.size W V := by rw [hV]; exact ((Below.refl _ W).alloc (Nat.le_refl _) _).alloc (by simp) _
  have HOB := Lib.hid (show OpB W V (.slice Am n cm) (.slice Ac m cc) from ⟨hb, by rw [hV]; exact (heap_alloc_old _ _ (by simp)).trans (heap_alloc_new W _), by
    rw [hV]; have := heap_alloc_new (W.alloc (.cells #[.slice Am n cm, .slice Ac m cc] 31)) (.cells #[.slice none 0 0, .slice none 0 0] 31); simpa using this⟩)
  have HRL := Lib.hid (h.under hb)
  have HRO := Lib.hid (fun (w : World) (b : Below W.heap.size W w) => RowAt.under hrow b)
  have HAL := Lib.hid (fun (w : World) (b : Below W.heap.size W w) (i : Nat) (h1 : i < raws.length) (h2 : i < r.cs.length) => (⟨(hall.2 i h1 h2).1, (hall.2 i h1 h2).2.1, (hall.2 i h1 h2).2.2.under b⟩ : raws[i].name = r.cs[i].name ∧ raws[i].teacher = r.cs[i].teacher ∧ StrsAt P w r.cs[i].studs raws[i].studs))
  have HV := Lib.hid hV
  have HNN := Lib.hid hnn
  have HMM := Lib.hid hmm
  have HRLN := Lib.hid hrl
  clear hsz h hms hrow hall hrl hb hV hnn hmm
  go_enter Tryz.func27, Tryz.ntmps27
  go_upto_region 1 with fail
  rw [← HV.out]
  have HNE := Lib.hid hne
  have HCP2 := Lib.hid (fun (w : World) (v : Value) (h : RlAt P w r v) => copy_any r nm (by have := HSZ.out.ms; omega) (by have := HSZ.out.cs; omega) (fun c hc => by have := HST.out c hc; omega) P w v h)
  clear hne
  have x0 := cell_of_row _ _ 0 _ _ (0, 0) HOB.out.rbox
  have x1 := cell_of_row _ _ 1 _ _ (0, 0) HOB.out.rbox
  go_wp2_with fail
  refine (HFI.out nm V _ HRL.out).mono ?_
  rintro e w1 ⟨rfl, hb1⟩
  have HOB := Lib.hid (HOB.out.under hb1)
  have HRL := Lib.hid (HRL.out.under hb1)
  clear hb1
  obtain ⟨fn, hfn⟩ : ∃ x, x = (findM r nm).name := ⟨_, rfl⟩
  obtain ⟨fr, hfr⟩ : ∃ x, x = (findM r nm).role := ⟨_, rfl⟩
  obtain ⟨fq, hfq⟩ : ∃ x, x = (findM r nm).quota := ⟨_, rfl⟩
  obtain ⟨hh, hhh⟩ : ∃ x, x = hasN r.names nm := ⟨_, rfl⟩
  rw [← hfn, ← hfr, ← hfq, ← hhh]
  have HHH := Lib.hid hhh
  clear hfn hfr hfq hhh x0 x1
  obtain ⟨M1, hM1⟩ : ∃ M, M = w1.alloc (.cells #[.string fn, .int .i64 fr, .int .i64 fq] 48) := ⟨_, rfl⟩
  obtain ⟨q1, hq1⟩ : ∃ q, q = w1.heap.size := ⟨_, rfl⟩
  have hbM1 : Below w1.heap.size w1 M1 := by rw [hM1]; exact (Below.refl _ _).alloc (Nat.le_refl _) _
  have HXq1 := Lib.hid (show M1.heap[q1]? = some (.cells #[.string fn, .int .i64 fr, .int .i64 fq] 48 (0, 0)) by rw [hM1, hq1]; exact heap_alloc_new _ _)
  have HLOq1 := Lib.hid (show W.heap.size + 2 ≤ q1 by rw [hq1]; exact HOB.out.lt)
  have HOB := Lib.hid (HOB.out.under hbM1)
  have HRL := Lib.hid (HRL.out.under hbM1)
  have HM1 := Lib.hid hM1
  have Hq1E := Lib.hid hq1
  clear hM1 hq1 hbM1
  go_upto_region 2 with fail
  rw [← HM1.out, ← Hq1E.out]
  cases hh with
  | false =>
    have HR := Lib.hid (show leaveM r nm = .error 10 by unfold leaveM; rw [if_pos HHH.out.symm])
    have HRS := Lib.hid HOB.out.exit.1
    have HBE := Lib.hid HOB.out.exit.2
    have r0' := cell_of_row _ _ 0 _ _ (0, 0) HOB.out.res
    have r1' := cell_of_row _ _ 1 _ _ (0, 0) HOB.out.res
    have g0' := Gn.frozen_row HOB.out.res 0
    have g1' := Gn.frozen_row HOB.out.res 1
    go_wp2_with fail
    refine bodyPost_ret (results_ct (P := Tryz.prog) rfl _ _ (W.heap.size + 1) 31 _ (0, 0) _ _ rfl rfl HRS.out Tryz.underlying31 rfl (by kernel_rfl)) rfl ?_
    rw [HR.out]
    exact ⟨_, rfl, rl_zero _ _, HBE.out⟩
  | true =>
    have HTT := Lib.hid (show leaveM r nm = if (r.cs.any fun c => decide (c.teacher = nm)) = true then .error 16 else .ok (copyM r nm) by unfold leaveM; rw [if_neg (by rw [← HHH.out]; decide), leave_is HSZ.out HHH.out.symm (HNE.out HHH.out.symm)])
    go_wp2_with fail
    go_loopw [8] (fun x wr => ∃ k : Nat, k ≤ m ∧ x = .int .i64 k ∧ wr = M1 ∧ ∀ j (h : j < r.cs.length), j < k → r.cs[j].teacher ≠ nm) (fun x _ => m - (intOf x).toNat)
    case atStart => exact ⟨0, Nat.zero_le _, rfl, rfl, fun j _ h => absurd h (by omega)⟩
    case round =>
      obtain ⟨k, hk, rfl, rfl, hno⟩ := hrel
      have HNO := Lib.hid hno
      clear hno
      have x0 := cell_of_row _ _ 0 _ _ (0, 0) HOB.out.rbox
      have x1 := cell_of_row _ _ 1 _ _ (0, 0) HOB.out.rbox
      by_cases hlt : k < m
      · have hlt2 : (k : Int) < (m : Int) := by omega
        have hkl : k < raws.length := by rw [HRLN.out]; exact hlt
        have hkc : k < r.cs.length := by rw [← HMM.out]; exact hlt
        obtain ⟨A5, c5, b5, h5, _, _, h5c, h5d⟩ := HRO.out wr HOB.out.bel
        rw [HRLN.out] at h5 h5c
        injection h5 with h5 _ h5k
        subst h5
        subst h5k
        obtain ⟨rfl, hb5, _⟩ := h5c (by omega)
        obtain ⟨t, ht⟩ : ∃ t, t = r.cs[k].teacher := ⟨_, rfl⟩
        have k1 := h5d k hkl 1 _ rfl
        rw [(HAL.out wr HOB.out.bel k hkl hkc).2.1, ← ht] at k1
        by_cases hq : t = nm
        · have e1 : (t.toList == nm.toList) = true := by rw [HEQ.out, decide_eq_true hq]
          have HF := Lib.hid (show (r.cs.any fun c => decide (c.teacher = nm)) = true from List.any_eq_true.2 ⟨r.cs[k], List.getElem_mem hkc, decide_eq_true (ht.symm.trans hq)⟩)
          clear hq ht hkl hkc h5d h5c hb5
          have HR := Lib.hid (show leaveM r nm = .error 16 by rw [HTT.out, if_pos HF.out])
          have HRS := Lib.hid HOB.out.exit.1
          have HBE := Lib.hid HOB.out.exit.2
          have r0' := cell_of_row _ _ 0 _ _ (0, 0) HOB.out.res
          have r1' := cell_of_row _ _ 1 _ _ (0, 0) HOB.out.res
          have g0' := Gn.frozen_row HOB.out.res 0
          have g1' := Gn.frozen_row HOB.out.res 1
          go_wp2_with fail
          refine bodyPost_ret (results_ct (P := Tryz.prog) rfl _ _ (W.heap.size + 1) 31 _ (0, 0) _ _ rfl rfl HRS.out Tryz.underlying31 rfl (by kernel_rfl)) rfl ?_
          rw [HR.out]
          exact ⟨_, rfl, rl_zero _ _, HBE.out⟩
        · have e1 : (t.toList == nm.toList) = false := by rw [HEQ.out, decide_eq_false hq]
          have HF := Lib.hid (show ∀ j (h : j < r.cs.length), j < k + 1 → r.cs[j].teacher ≠ nm from fun j h hj => by
            by_cases hjk : j = k
            · subst hjk; rw [← ht]; exact hq
            · exact HNO.out j h (by omega))
          have hw1 : IntKind.i64.wrap ((k : Int) + 1) = ((k + 1 : Nat) : Int) := IntWalk.i64_in _ (by omega)
          clear hq ht hkl hkc h5d h5c hb5
          go_wp2_with fail
          go_roundw
          case rel => exact ⟨k + 1, by omega, by go_num, trivial, HF.out⟩
          case measure => simp [intOf]; omega
      · have hlt2 : ¬ (k : Int) < (m : Int) := by omega
        have HF := Lib.hid (show (r.cs.any fun c => decide (c.teacher = nm)) = false by
          rw [Bool.eq_false_iff]
          intro h
          obtain ⟨c, hc, h2⟩ := List.any_eq_true.1 h
          obtain ⟨j, hj, rfl⟩ := List.getElem_of_mem hc
          exact HNO.out j hj (by have := HMM.out; omega) (of_decide_eq_true h2))
        have HR := Lib.hid (show leaveM r nm = .ok (copyM r nm) by rw [HTT.out, if_neg (by rw [HF.out]; decide)])
        go_wp2_with fail
        refine (HCP2.out _ _ HRL.out).mono ?_
        rintro e w9 ⟨vm, vc, raw9, rfl, hcp, hb9⟩
        have hlo := HOB.out.lt
        have HOB := Lib.hid (HOB.out.under hb9)
        obtain ⟨Bm, dm, rfl⟩ := Gn.slice_of hcp.rm
        obtain ⟨Bc, dc, rfl⟩ := Gn.slice_of hcp.rc
        have HRS := Lib.hid (HOB.out.full hcp hlo).1
        have HFU := Lib.hid (HOB.out.full hcp hlo).2
        have r0' := cell_of_row _ _ 0 _ _ (0, 0) HOB.out.res
        have r1' := cell_of_row _ _ 1 _ _ (0, 0) HOB.out.res
        have g0' := Gn.frozen_row HOB.out.res 0
        have g1' := Gn.frozen_row HOB.out.res 1
        clear hcp hb9 x0 x1
        go_wp2_with fail
        refine bodyPost_ret (results_ct (P := Tryz.prog) rfl _ _ (W.heap.size + 1) 31 _ (0, 0) _ _ rfl rfl HRS.out Tryz.underlying31 rfl (by kernel_rfl)) rfl ?_
        rw [HR.out]
        exact HFU.out
end Go.Proofs.YtnmhgjoofgmcgaaGreat.Rl

namespace Go.Proofs.YtnmhgjoofgmcgaaGreat.Rl
open Go.RowKit
open Fx (StrsAt)
set_option maxRecDepth 100000
set_option linter.unusedSimpArgs false
set_option linter.unusedVariables false
set_option maxHeartbeats 16000000 in
theorem dclose_any (r : Rol) (nm : ByteArray) (hsz : Sized r) (P : Nat → Prop) (W : World) (v : Value) (h : RlAt P W r v) :
    Calls Tryz.prog 30 #[v, .string nm] W (OpOut W (closeM r nm)) := by
  have hn := hsz.ms
  have hm := hsz.cs
  have HST := Lib.hid hsz.studs
  have HCOP := Lib.hid (fun (w : World) (v : Value) (h : RlAt P w r v) => copy0_any r (by have := hsz.ms; omega) (by have := hsz.cs; omega) (fun c hc => by have := hsz.studs c hc; omega) P w v h)
  have HFI := Lib.hid (fun (nm : ByteArray) (w : World) (v : Value) (h : RlAt P w r v) => find2_any r nm hsz.names (by have := hsz.ms; omega) P w v h)
  have HOF := Lib.hid (fun (nm : ByteArray) (w : World) (v : Value) (h : RlAt P w r v) => of_any r nm P w v h hsz.classes (by have := hsz.cs; omega))
  have HEQ := Lib.hid bytes_eq
  have HSZ := Lib.hid hsz
  obtain ⟨Am, cm, Ac, cc, rfl, hms, hcs⟩ := h.form
  obtain ⟨raws, hrow, hall⟩ := hcs
  have hrl : raws.length = r.cs.length := hall.1
  obtain ⟨n, hnn⟩ : ∃ n, n = r.ms.length := ⟨_, rfl⟩
  obtain ⟨m, hmm⟩ : ∃ m, m = r.cs.length := ⟨_, rfl⟩
  rw [← hnn] at hms hn
  rw [← hmm] at hrow hm hrl
  rw [← hnn, ← hmm] at h ⊢
  obtain ⟨V, hV⟩ : ∃ V, V = (W.alloc (.cells #[.slice Am n cm, .slice Ac m cc] 31)).alloc (.cells #[.slice none 0 0, .slice none 0 0] 31) := ⟨_, rfl⟩
  have hb : Below W.heap.size W V := by rw [hV]; exact ((Below.refl _ W).alloc (Nat.le_refl _) _).alloc (by simp) _
  have HOB := Lib.hid (show OpB W V (.slice Am n cm) (.slice Ac m cc) from ⟨hb, by rw [hV]; exact (heap_alloc_old _ _ (by simp)).trans (heap_alloc_new W _), by
    rw [hV]; have := heap_alloc_new (W.alloc (.cells #[.slice Am n cm, .slice Ac m cc] 31)) (.cells #[.slice none 0 0, .slice none 0 0] 31); simpa using this⟩)
  have HRL := Lib.hid (h.under hb)
  have HRO := Lib.hid (fun (w : World) (b : Below W.heap.size W w) => RowAt.under hrow b)
  have HAL := Lib.hid (fun (w : World) (b : Below W.heap.size W w) (i : Nat) (h1 : i < raws.length) (h2 : i < r.cs.length) => (⟨(hall.2 i h1 h2).1, (hall.2 i h1 h2).2.1, (hall.2 i h1 h2).2.2.under b⟩ : raws[i].name = r.cs[i].name ∧ raws[i].teacher = r.cs[i].teacher ∧ StrsAt P w r.cs[i].studs raws[i].studs))
  have HV := Lib.hid hV
  have HNN := Lib.hid hnn
  have HMM := Lib.hid hmm
  have HRLN := Lib.hid hrl
  clear hsz h hms hrow hall hrl hb hV hnn hmm
  go_enter Tryz.func30, Tryz.ntmps30
  go_upto_region 1 with fail
  rw [← HV.out]
  have x0 := cell_of_row _ _ 0 _ _ (0, 0) HOB.out.rbox
  have x1 := cell_of_row _ _ 1 _ _ (0, 0) HOB.out.rbox
  obtain ⟨i1, hi1, hy0, hy1, hy2⟩ := info_parts DC_info
  go_wp2_with fail
  refine (HOF.out nm V _ HRL.out).mono ?_
  rintro e w1 ⟨rfl, hb1⟩
  have HOB := Lib.hid (HOB.out.under hb1)
  have HRL := Lib.hid (HRL.out.under hb1)
  clear hb1
  clear x0 x1
  obtain ⟨hh, hhh⟩ : ∃ x, x = hasN r.classes nm := ⟨_, rfl⟩
  have HHH := Lib.hid hhh
  clear hhh
  go_upto_region 2 with fail
  cases hh with
  | false =>
    have HOI := Lib.hid (show ofI r.classes nm = -1 by unfold ofI; rw [← HHH.out]; rfl)
    rw [HOI.out]
    have HR := Lib.hid (show closeM r nm = .error 10 by unfold closeM; rw [if_pos HHH.out.symm])
    have HRS := Lib.hid HOB.out.exit.1
    have HBE := Lib.hid HOB.out.exit.2
    have r0' := cell_of_row _ _ 0 _ _ (0, 0) HOB.out.res
    have r1' := cell_of_row _ _ 1 _ _ (0, 0) HOB.out.res
    have g0' := Gn.frozen_row HOB.out.res 0
    have g1' := Gn.frozen_row HOB.out.res 1
    go_wp2_with fail
    refine bodyPost_ret (results_ct (P := Tryz.prog) rfl _ _ (W.heap.size + 1) 31 _ (0, 0) _ _ rfl rfl HRS.out Tryz.underlying31 rfl (by kernel_rfl)) rfl ?_
    rw [HR.out]
    exact ⟨_, rfl, rl_zero _ _, HBE.out⟩
  | true =>
    obtain ⟨p, hp⟩ : ∃ p, p = plc r.classes nm := ⟨_, rfl⟩
    have HOI := Lib.hid (show ofI r.classes nm = (p : Int) by unfold ofI; rw [← HHH.out, hp]; rfl)
    rw [HOI.out]
    have hpl : p < m := by rw [hp, HMM.out]; have := hasN_lt HSZ.out.classes HHH.out.symm; simpa [Rol.classes] using this
    have HR := Lib.hid (show closeM r nm = .ok ⟨r.ms, r.cs.take p ++ r.cs.drop (p + 1)⟩ by unfold closeM; rw [if_neg (by rw [← HHH.out]; decide), hp])
    clear hp
    have x0 := cell_of_row _ _ 0 _ _ (0, 0) HOB.out.rbox
    have x1 := cell_of_row _ _ 1 _ _ (0, 0) HOB.out.rbox
    go_wp2_with fail
    refine (HCOP.out w1 _ HRL.out).mono ?_
    rintro e w2 ⟨vm, vc, raw9, rfl, hcp, hb2⟩
    have hb2' := hb2
    have hlo1 := HOB.out.lt
    have HOB := Lib.hid (HOB.out.under hb2)
    have HRL := Lib.hid (HRL.out.under hb2)
    clear hb2
    obtain ⟨Bm, dm, rfl⟩ := Gn.slice_of hcp.rm
    have hl9 : raw9.length = m := by rw [hcp.len, HMM.out]
    obtain ⟨g, dc, rfl, hdc, hgb, hgl⟩ := own_form hcp.rc (by rw [← HMM.out]; omega)
    rw [← HMM.out] at hdc
    clear x0 x1
    obtain ⟨M2, hM2⟩ : ∃ M, M = w2.alloc (.cells #[.slice Bm r.ms.length dm, .slice (some ⟨g, 0, none⟩) r.cs.length dc] 31) := ⟨_, rfl⟩
    obtain ⟨q2, hq2⟩ : ∃ q, q = w2.heap.size := ⟨_, rfl⟩
    have hbM2 : Below w2.heap.size w2 M2 := by rw [hM2]; exact (Below.refl _ _).alloc (Nat.le_refl _) _
    have HXq2 := Lib.hid (show M2.heap[q2]? = some (.cells #[.slice Bm r.ms.length dm, .slice (some ⟨g, 0, none⟩) r.cs.length dc] 31 (0, 0)) by rw [hM2, hq2]; exact heap_alloc_new _ _)
    have HLOq2 := Lib.hid (show W.heap.size + 2 ≤ q2 by rw [hq2]; exact HOB.out.lt)
    have HOB := Lib.hid (HOB.out.under hbM2)
    have HRL := Lib.hid (HRL.out.under hbM2)
    have HM2 := Lib.hid hM2
    have Hq2E := Lib.hid hq2
    have HCP := Lib.hid (hcp.under hbM2)
    have HLT := Lib.hid (show LtQ q2 raw9 (.slice Bm r.ms.length dm) (.slice (some ⟨g, 0, none⟩) r.cs.length dc) by rw [hq2]; exact hcp.ltq)
    have HQ2S := Lib.hid (show q2 < M2.heap.size by rw [hM2, hq2]; simp)
    have HBS := Lib.hid (show w1.heap.size ≤ q2 by rw [hq2]; exact hb2'.size)
    clear hcp hM2 hq2 hbM2
    go_upto_region 5 with fail
    rw [← HM2.out, ← Hq2E.out]
    rw [← HNN.out, ← HMM.out] at HCP HLT HXq2
    rw [← HNN.out, ← HMM.out]
    have b1 := cell_of_row _ _ 1 _ _ (0, 0) HXq2.out
    have HRC := Lib.hid (show M2.ownsRow w1.heap.size 57 3 (.slice (some ⟨g, 0, none⟩) m dc) m (cellsOf encC raw9) by have := HCP.out.rc; rwa [← HMM.out] at this)
    have hs1 := slc_to g m dc p (by omega)
    have HS1 := Lib.hid hs1
    have hcl : (cellsOf encC (raw9.take p)).length = p * 3 := by rw [cellsOf_len encC_len, List.length_take]; congr 1; omega
    go_wp2_with ((at_builtin; refine wpList_append_own _ rfl _ _ 29 rfl M2.heap.size 57 i1 _ 3 56 Tryz.underlying29 hi1 hy0 hy1 hy2 rfl (by decide) (.slice none 0 0) 0 [] rfl (World.ownsRow_nil _ _ _ _) ⟨g, 0, none⟩ p dc (cellsOf encC (raw9.take p)) rfl hcl (by have := cells_part encC_len HRC.out 0 p; simpa using this) (craw_one (HCP.out.ownC.take p).slices) (by unfold maxLen; omega) (by omega) (Nat.le_refl _) ?_))
    intro v6 w6 ho6 hg6 _
    have hbg := below_grown (q := q2) (Below.refl _ _) HQ2S.out hg6 (fun k hk => by cases hk)
    have HB6 := Lib.hid hbg.2
    have HX6 := Lib.hid ((hbg.1.block _ (by omega)).trans HXq2.out)
    have HO6 := Lib.hid ho6
    have hsz6 := hg6.size
    have HC6 := Lib.hid (HCP.out.mid HLT.out hbg.2)
    have b1 := cell_of_row _ _ 1 _ _ (0, 0) HX6.out
    obtain ⟨A6, c6, rfl⟩ := Gn.slice_of ho6
    have HOG := Lib.hid (show ∀ z, (Value.slice A6 p c6).ownBlock = some z → q2 < z from fun z hz => by have := Gn.own_block ho6 z hz; have := HQ2S.out; omega)
    have hs2 : ∀ w, (Instr.slice 29 (.slice (some ⟨g, 0, none⟩) m dc) (some (.int .i64 ((p : Int) + 1))) none none).run Tryz.prog w = .ok (.slice (some ⟨g, offC dc (p + 1), none⟩) (m - (p + 1)) (dc - (p + 1))) w := fun w => by have h := slc_from g m dc (p + 1) (by omega) w; rwa [show ((p + 1 : Nat) : Int) = (p : Int) + 1 by omega] at h
    have hw1 : IntKind.i64.wrap ((p : Int) + 1) = ((p + 1 : Nat) : Int) := IntWalk.i64_in _ (by omega)
    have hcl2 : (cellsOf encC (raw9.drop (p + 1))).length = (m - (p + 1)) * 3 := by rw [cellsOf_len encC_len, List.length_drop, hl9]
    have HR6 := Lib.hid (show w6.ownsRow w1.heap.size 57 3 (.slice (some ⟨g, 0, none⟩) m dc) m (cellsOf encC raw9) by have := HC6.out.rc; rwa [← HMM.out] at this)
    clear ho6 hg6 hbg hcl hs1
    go_wp2_with ((at_builtin; refine wpList_append_own _ rfl _ _ 29 rfl M2.heap.size 57 i1 _ 3 56 Tryz.underlying29 hi1 hy0 hy1 hy2 rfl (by decide) (.slice A6 p c6) p _ rfl HO6.out ⟨g, offC dc (p + 1), none⟩ (m - (p + 1)) (dc - (p + 1)) (cellsOf encC (raw9.drop (p + 1))) rfl hcl2 (cells_rest HR6.out hl9 hdc (p + 1)) (craw_one (HCP.out.ownC.drop (p + 1)).slices) (by unfold maxLen; omega) (by omega) hsz6 ?_))
    intro v7 w7 ho7 hg7 _
    have hbg := below_grown (q := q2) HB6.out (by have := HQ2S.out; omega) hg7 HOG.out
    obtain ⟨A7, c7, rfl⟩ := Gn.slice_of ho7
    have HX7 := Lib.hid ((hbg.1.block _ (by omega)).trans HX6.out)
    obtain ⟨W8, hW8⟩ : ∃ W8, W8 = w7.setCell ⟨q2, 1, none⟩ (.slice A7 (p + (m - (p + 1))) c7) := ⟨_, rfl⟩
    have hb8 : Below q2 M2 W8 := by rw [hW8]; exact hbg.2.setCell (Nat.le_refl _) _
    have HOB := Lib.hid (HOB.out.above HLOq2.out hb8)
    have HX8 := Lib.hid (show W8.heap[q2]? = some (.cells #[.slice Bm n dm, .slice A7 (p + (m - (p + 1))) c7] 31 (0, 0)) by rw [hW8]; exact Gn.heap_set HX7.out 1 _)
    have HW8 := Lib.hid hW8
    have b1 := cell_of_row _ _ 1 _ _ (0, 0) HX7.out
    have f1 := Gn.frozen_row HX7.out 1
    have HC8 := Lib.hid (HCP.out.mid HLT.out hb8)
    have hcells : cellsOf encC (raw9.take p ++ raw9.drop (p + 1)) = cellsOf encC (raw9.take p) ++ cellsOf encC (raw9.drop (p + 1)) := cellsOf_app _ _ _
    have hlen : (r.cs.take p ++ r.cs.drop (p + 1)).length = p + (m - (p + 1)) := by rw [List.length_append, List.length_take, List.length_drop, ← HMM.out]; omega
    have HCQ := Lib.hid (show CpAt w1.heap.size W8 r.ms (r.cs.take p ++ r.cs.drop (p + 1)) (raw9.take p ++ raw9.drop (p + 1)) (.slice Bm n dm) (.slice A7 (p + (m - (p + 1))) c7) from
      HCP.out.reclass HLT.out hb8 (by
        rw [hlen, hcells, hW8]
        exact own_low (own_keep ho7 fun k hk => set_far k (by have := Gn.own_block ho7 k hk; have := HQ2S.out; omega)) (by have := HQ2S.out; have := HBS.out; omega)) ((HC8.out.ownC.take p).app (HC8.out.ownC.drop (p + 1))))
    clear ho7 hg7 hbg hcells hlen hs2 hcl2 hW8 hb8
    go_upto_region 8 with fail
    rw [← HW8.out]
    clear b1 f1
    have HRS := Lib.hid (HOB.out.full HCQ.out hlo1).1
    have HFU := Lib.hid (HOB.out.full HCQ.out hlo1).2
    have r0' := cell_of_row _ _ 0 _ _ (0, 0) HOB.out.res
    have r1' := cell_of_row _ _ 1 _ _ (0, 0) HOB.out.res
    have g0' := Gn.frozen_row HOB.out.res 0
    have g1' := Gn.frozen_row HOB.out.res 1
    have o0' := cell_of_row _ _ 0 _ _ (0, 0) HX8.out
    have o1' := cell_of_row _ _ 1 _ _ (0, 0) HX8.out
    go_wp2_with fail
    refine bodyPost_ret (results_ct (P := Tryz.prog) rfl _ _ (W.heap.size + 1) 31 _ (0, 0) _ _ rfl rfl HRS.out Tryz.underlying31 rfl (by kernel_rfl)) rfl ?_
    rw [HR.out]
    exact HFU.out
end Go.Proofs.YtnmhgjoofgmcgaaGreat.Rl
