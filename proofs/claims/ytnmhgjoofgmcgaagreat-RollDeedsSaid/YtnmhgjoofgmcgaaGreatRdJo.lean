/-
  Layer 18: the document's Join.
-/
import Derived.Test.YtnmhgjoofgmcgaaGreatRdEn
import Derived.Test.YtnmhgjoofgmcgaaGreatRlJo
import Derived.Deep.RegionHeld3
import Derived.Deep.DeepCutAuto
namespace Go.Proofs.YtnmhgjoofgmcgaaGreat.Rl
open Go.RowKit
open Fx (StrsAt)
set_option maxRecDepth 100000
set_option linter.unusedSimpArgs false
set_option linter.unusedVariables false
set_option maxHeartbeats 16000000 in
theorem djoin_any (r : Rol) (cl st : ByteArray) (hsz : Sized r) (P : Nat → Prop) (W : World) (v : Value) (h : RlAt P W r v) :
    Calls Tryz.prog 31 #[v, .string cl, .string st] W (OpOut W (joinM r cl st)) := by
  have hn := hsz.ms
  have hm := hsz.cs
  have HST := Lib.hid hsz.studs
  have HCOP := Lib.hid (fun (w : World) (v : Value) (h : RlAt P w r v) => copy0_any r (by have := hsz.ms; omega) (by have := hsz.cs; omega) (fun c hc => by have := hsz.studs c hc; omega) P w v h)
  have HFI := Lib.hid (fun (nm : ByteArray) (w : World) (v : Value) (h : RlAt P w r v) => find2_any r nm hsz.names (by have := hsz.ms; omega) P w v h)
  have HOF := Lib.hid (fun (nm : ByteArray) (w : World) (v : Value) (h : RlAt P w r v) => of_any r nm P w v h hsz.classes (by have := hsz.cs; omega))
  have HEQ := Lib.hid bytes_eq
  have HSZ := Lib.hid hsz
  obtain ⟨Am, cm, Ac, cc, rfl, hms, hcs⟩ := h.form
  obtain ⟨raws, hrow, hall⟩ := hcs
  have hrl : raws.length = r.cs.length := hall.1
  obtain ⟨n, hnn⟩ : ∃ n, n = r.ms.length := ⟨_, rfl⟩
  obtain ⟨m, hmm⟩ : ∃ m, m = r.cs.length := ⟨_, rfl⟩
  rw [← hnn] at hms hn
  rw [← hmm] at hrow hm hrl
  rw [← hnn, ← hmm] at h ⊢
  obtain ⟨V, hV⟩ : ∃ V, V = (W.alloc (.cells #[.slice Am n cm, .slice Ac m cc] 31)).alloc (.cells #[.slice none 0 0, .slice none 0 0] 31) := ⟨_, rfl⟩
  have hb : Below W.heap.size W V := by rw [hV]; exact ((Below.refl _ W).alloc (Nat.le_refl _) _).alloc (by simp) _
  have HOB := Lib.hid (show OpB W V (.slice Am n cm) (.slice Ac m cc) from ⟨hb, by rw [hV]; exact (heap_alloc_old _ _ (by simp)).trans (heap_alloc_new W _), by
    rw [hV]; have := heap_alloc_new (W.alloc (.cells #[.slice Am n cm, .slice Ac m cc] 31)) (.cells #[.slice none 0 0, .slice none 0 0] 31); simpa using this⟩)
  have HRL := Lib.hid (h.under hb)
  have HRO := Lib.hid (fun (w : World) (b : Below W.heap.size W w) => RowAt.under hrow b)
  have HAL := Lib.hid (fun (w : World) (b : Below W.heap.size W w) (i : Nat) (h1 : i < raws.length) (h2 : i < r.cs.length) => (⟨(hall.2 i h1 h2).1, (hall.2 i h1 h2).2.1, (hall.2 i h1 h2).2.2.under b⟩ : raws[i].name = r.cs[i].name ∧ raws[i].teacher = r.cs[i].teacher ∧ StrsAt P w r.cs[i].studs raws[i].studs))
  have HV := Lib.hid hV
  have HNN := Lib.hid hnn
  have HMM := Lib.hid hmm
  have HRLN := Lib.hid hrl
  clear hsz h hms hrow hall hrl hb hV hnn hmm
  go_enter Tryz.func31, Tryz.ntmps31
  go_upto_region 1 with fail
  rw [← HV.out]
  obtain ⟨i0, hi0, hz0, hz1, hz2⟩ := info_parts Oct.strinfo
  have x0 := cell_of_row _ _ 0 _ _ (0, 0) HOB.out.rbox
  have x1 := cell_of_row _ _ 1 _ _ (0, 0) HOB.out.rbox
  go_wp2_with fail
  refine (HOF.out cl V _ HRL.out).mono ?_
  rintro e w1 ⟨rfl, hb1⟩
  have HOB := Lib.hid (HOB.out.under hb1)
  have HRL := Lib.hid (HRL.out.under hb1)
  clear hb1
  clear x0 x1
  obtain ⟨oi, hoi⟩ : ∃ x, x = ofI r.classes cl := ⟨_, rfl⟩
  rw [← hoi]
  have HOI0 := Lib.hid hoi
  clear hoi
  have x0 := cell_of_row _ _ 0 _ _ (0, 0) HOB.out.rbox
  have x1 := cell_of_row _ _ 1 _ _ (0, 0) HOB.out.rbox
  go_wp2_with fail
  refine (HFI.out st w1 _ HRL.out).mono ?_
  rintro e w2 ⟨rfl, hb2⟩
  have HOB := Lib.hid (HOB.out.under hb2)
  have HRL := Lib.hid (HRL.out.under hb2)
  clear hb2
  obtain ⟨fn, hfn⟩ : ∃ x, x = (findM r st).name := ⟨_, rfl⟩
  obtain ⟨fr, hfr⟩ : ∃ x, x = (findM r st).role := ⟨_, rfl⟩
  obtain ⟨fq, hfq⟩ : ∃ x, x = (findM r st).quota := ⟨_, rfl⟩
  obtain ⟨hf, hhf⟩ : ∃ x, x = hasN r.names st := ⟨_, rfl⟩
  rw [← hfn, ← hfr, ← hfq, ← hhf]
  have HHF := Lib.hid hhf
  have HFR := Lib.hid hfr
  clear hfn hfr hfq hhf x0 x1
  obtain ⟨M1, hM1⟩ : ∃ M, M = w2.alloc (.cells #[.string fn, .int .i64 fr, .int .i64 fq] 48) := ⟨_, rfl⟩
  obtain ⟨q1, hq1⟩ : ∃ q, q = w2.heap.size := ⟨_, rfl⟩
  have hbM1 : Below w2.heap.size w2 M1 := by rw [hM1]; exact (Below.refl _ _).alloc (Nat.le_refl _) _
  have HXq1 := Lib.hid (show M1.heap[q1]? = some (.cells #[.string fn, .int .i64 fr, .int .i64 fq] 48 (0, 0)) by rw [hM1, hq1]; exact heap_alloc_new _ _)
  have HLOq1 := Lib.hid (show W.heap.size + 2 ≤ q1 by rw [hq1]; exact HOB.out.lt)
  have HOB := Lib.hid (HOB.out.under hbM1)
  have HRL := Lib.hid (HRL.out.under hbM1)
  have HM1 := Lib.hid hM1
  have Hq1E := Lib.hid hq1
  clear hM1 hq1 hbM1
  go_upto_region 3 with fail
  rw [← HM1.out, ← Hq1E.out]
  have x0 := cell_of_row _ _ 0 _ _ (0, 0) HOB.out.rbox
  have x1 := cell_of_row _ _ 1 _ _ (0, 0) HOB.out.rbox
  have m1 := cell_of_row _ _ 1 _ _ (0, 0) HXq1.out
  obtain ⟨hh, hhh⟩ : ∃ x, x = hasN r.classes cl := ⟨_, rfl⟩
  have HHH := Lib.hid hhh
  clear hhh
  cases hh with
  | false =>
    have HOI := Lib.hid (show oi = -1 by rw [HOI0.out]; unfold ofI; rw [← HHH.out]; rfl)
    rw [HOI.out]
    have HR := Lib.hid (show joinM r cl st = .error 10 by unfold joinM; rw [if_pos HHH.out.symm])
    have HRS := Lib.hid HOB.out.exit.1
    have HBE := Lib.hid HOB.out.exit.2
    have r0' := cell_of_row _ _ 0 _ _ (0, 0) HOB.out.res
    have r1' := cell_of_row _ _ 1 _ _ (0, 0) HOB.out.res
    have g0' := Gn.frozen_row HOB.out.res 0
    have g1' := Gn.frozen_row HOB.out.res 1
    go_wp2_with fail
    refine bodyPost_ret (results_ct (P := Tryz.prog) rfl _ _ (W.heap.size + 1) 31 _ (0, 0) _ _ rfl rfl HRS.out Tryz.underlying31 rfl (by kernel_rfl)) rfl ?_
    rw [HR.out]
    exact ⟨_, rfl, rl_zero _ _, HBE.out⟩
  | true =>
    obtain ⟨p, hp⟩ : ∃ p, p = plc r.classes cl := ⟨_, rfl⟩
    have HOI := Lib.hid (show oi = (p : Int) by rw [HOI0.out]; unfold ofI; rw [← HHH.out, hp]; rfl)
    rw [HOI.out]
    have hpc : p < r.cs.length := by rw [hp]; have := hasN_lt HSZ.out.classes HHH.out.symm; simpa [Rol.classes] using this
    have hpm : p < m := by rw [HMM.out]; exact hpc
    have hpw : p < raws.length := by rw [HRLN.out]; exact hpm
    cases hf with
    | false =>
      have HR := Lib.hid (show joinM r cl st = .error 10 by unfold joinM; rw [if_neg (by rw [← HHH.out]; decide), if_pos HHF.out.symm])
      have HRS := Lib.hid HOB.out.exit.1
      have HBE := Lib.hid HOB.out.exit.2
      have r0' := cell_of_row _ _ 0 _ _ (0, 0) HOB.out.res
      have r1' := cell_of_row _ _ 1 _ _ (0, 0) HOB.out.res
      have g0' := Gn.frozen_row HOB.out.res 0
      have g1' := Gn.frozen_row HOB.out.res 1
      go_wp2_with fail
      refine bodyPost_ret (results_ct (P := Tryz.prog) rfl _ _ (W.heap.size + 1) 31 _ (0, 0) _ _ rfl rfl HRS.out Tryz.underlying31 rfl (by kernel_rfl)) rfl ?_
      rw [HR.out]
      exact ⟨_, rfl, rl_zero _ _, HBE.out⟩
    | true =>
      by_cases hr : fr = 1
      · have hr1 : (fr == 1) = true := by rw [beq_iff_eq]; exact hr
        have hr2 : (fr != 1) = false := by rw [bne, hr1]; rfl
        have HPT := Lib.hid (show joinM r cl st = if hasN r.cs[p].studs st = true then .error 9 else .ok ⟨r.ms, r.cs.set p ⟨r.cs[p].name, r.cs[p].teacher, insN r.cs[p].studs st⟩⟩ by
          unfold joinM
          rw [if_neg (by rw [← HHH.out]; decide), if_neg (by rw [← HHF.out]; decide), if_pos (by rw [← HFR.out]; exact hr), ← hp, getD_cls hpc])
        clear hp hr
        obtain ⟨A5, c5, b5, h5, _, _, h5c, h5d⟩ := HRO.out M1 HOB.out.bel
        rw [HRLN.out] at h5 h5c
        injection h5 with h5 h50 h5k
        subst h5
        subst h5k
        obtain ⟨rfl, hb5, _⟩ := h5c (by omega)
        have k2 := h5d p hpw 2 _ rfl
        have HSN := Lib.hid (HAL.out M1 HOB.out.bel p hpw hpc).2.2
        have HINA := Lib.hid (in_any r.cs[p].studs st P M1 _ HSN.out (by have := HST.out _ (List.getElem_mem hpc); omega))
        obtain ⟨A6, c6, hv6⟩ := HSN.out.form
        obtain ⟨rs, hrs⟩ : ∃ v, v = raws[p].studs := ⟨_, rfl⟩
        rw [← hrs] at k2 HINA hv6
        subst hv6
        obtain ⟨s6, hs6⟩ : ∃ n, n = r.cs[p].studs.length := ⟨_, rfl⟩
        rw [← hs6] at k2 HINA
        obtain ⟨hi, hhi⟩ : ∃ b, b = hasN r.cs[p].studs st := ⟨_, rfl⟩
        rw [← hhi] at HINA HPT
        have HHI := Lib.hid hhi
        clear hrs hs6 hhi h5d h5c hb5 h50
        go_wp2_with fail
        refine HINA.out.mono ?_
        rintro e w3 ⟨rfl, hb3⟩
        have HOB := Lib.hid (HOB.out.under hb3)
        have HRL := Lib.hid (HRL.out.under hb3)
        clear hb3
        clear x0 x1 k2 m1 hr1 hr2
        have x0 := cell_of_row _ _ 0 _ _ (0, 0) HOB.out.rbox
        have x1 := cell_of_row _ _ 1 _ _ (0, 0) HOB.out.rbox
        cases hi with
        | true =>
          have HR := Lib.hid (show joinM r cl st = .error 9 by rw [HPT.out, if_pos rfl])
          have HRS := Lib.hid HOB.out.exit.1
          have HBE := Lib.hid HOB.out.exit.2
          have r0' := cell_of_row _ _ 0 _ _ (0, 0) HOB.out.res
          have r1' := cell_of_row _ _ 1 _ _ (0, 0) HOB.out.res
          have g0' := Gn.frozen_row HOB.out.res 0
          have g1' := Gn.frozen_row HOB.out.res 1
          go_wp2_with fail
          refine bodyPost_ret (results_ct (P := Tryz.prog) rfl _ _ (W.heap.size + 1) 31 _ (0, 0) _ _ rfl rfl HRS.out Tryz.underlying31 rfl (by kernel_rfl)) rfl ?_
          rw [HR.out]
          exact ⟨_, rfl, rl_zero _ _, HBE.out⟩
        | false =>
          rw [if_neg (by decide)] at HPT
          go_wp2_with fail
          refine (HCOP.out w3 _ HRL.out).mono ?_
          rintro e w4 ⟨vm, vc, raw9, rfl, hcp, hb4⟩
          have hlo1 := HOB.out.lt
          have hb4' := hb4
          have HOB := Lib.hid (HOB.out.under hb4)
          have HRL := Lib.hid (HRL.out.under hb4)
          clear hb4
          obtain ⟨w5, hw5⟩ : ∃ w, w = w3 := ⟨_, rfl⟩
          rw [← hw5] at hcp hlo1 hb4'
          clear hw5
          obtain ⟨Bm, dm, rfl⟩ := Gn.slice_of hcp.rm
          have hl9 : raw9.length = m := by rw [hcp.len, HMM.out]
          clear x0 x1
          obtain ⟨g, dc, rfl, hdc, hgb, hgl⟩ := own_form hcp.rc (by omega)
          rw [← HMM.out] at hdc
          obtain ⟨M9, hM9⟩ : ∃ M, M = w4.alloc (.cells #[.slice Bm r.ms.length dm, .slice (some ⟨g, 0, none⟩) r.cs.length dc] 31) := ⟨_, rfl⟩
          obtain ⟨q9, hq9⟩ : ∃ q, q = w4.heap.size := ⟨_, rfl⟩
          have hbM9 : Below w4.heap.size w4 M9 := by rw [hM9]; exact (Below.refl _ _).alloc (Nat.le_refl _) _
          have HXq9 := Lib.hid (show M9.heap[q9]? = some (.cells #[.slice Bm r.ms.length dm, .slice (some ⟨g, 0, none⟩) r.cs.length dc] 31 (0, 0)) by rw [hM9, hq9]; exact heap_alloc_new _ _)
          have HLOq9 := Lib.hid (show W.heap.size + 2 ≤ q9 by rw [hq9]; exact HOB.out.lt)
          have HOB := Lib.hid (HOB.out.under hbM9)
          have HRL := Lib.hid (HRL.out.under hbM9)
          have HM9 := Lib.hid hM9
          have Hq9E := Lib.hid hq9
          have HCP := Lib.hid (hcp.under hbM9)
          have HLT := Lib.hid (show LtQ q9 raw9 (.slice Bm r.ms.length dm) (.slice (some ⟨g, 0, none⟩) r.cs.length dc) by rw [hq9]; exact hcp.ltq)
          have HQ9S := Lib.hid (show q9 < M9.heap.size by rw [hM9, hq9]; simp)
          have HBS := Lib.hid (show w5.heap.size ≤ q9 by rw [hq9]; exact hb4'.size)
          have HQG := Lib.hid (show q9 ≠ g by rw [hq9]; omega)
          have HGB := Lib.hid (show W.heap.size + 2 ≤ g by omega)
          clear hcp hM9 hq9 hbM9 hb4' hgb hgl
          go_upto_region 10 with fail
          rw [← HM9.out, ← Hq9E.out]
          rw [← HNN.out] at HCP HLT HXq9
          rw [← HNN.out]
          rw [← HMM.out] at HCP HLT HXq9
          rw [← HMM.out]
          have HRC := Lib.hid (show M9.ownsRow w5.heap.size 57 3 (.slice (some ⟨g, 0, none⟩) m dc) m (cellsOf encC raw9) by have := HCP.out.rc; rwa [← HMM.out] at this)
          have hpr : p < raw9.length := by omega
          obtain ⟨ss, hss⟩ : ∃ ss, ss = r.cs[p].studs := ⟨_, rfl⟩
          have HSS := Lib.hid hss
          have hso := (HCP.out.own p hpr hpc).2.2
          have hlq := HLT.out.2.2 p hpr
          have s2 := (cell_cls HRC.out p hpr).2.2
          rw [← hss] at hso
          obtain ⟨rv, hrv⟩ : ∃ rv, rv = raw9[p].studs := ⟨_, rfl⟩
          rw [← hrv] at hso hlq s2
          obtain ⟨A7, c7, hrv2⟩ := Gn.slice_of hso
          subst hrv2
          obtain ⟨sl, hsl⟩ : ∃ n, n = ss.length := ⟨_, rfl⟩
          rw [← hsl] at hso hlq s2
          have hsl4 : sl ≤ 4000 := by rw [hsl, hss]; exact HST.out _ (List.getElem_mem hpc)
          have HSO := Lib.hid hso
          have HLQ := Lib.hid hlq
          have HSL := Lib.hid hsl
          clear hrv hso hlq hsl hss
          have b1 := cell_of_row _ _ 1 _ _ (0, 0) HXq9.out
          have hrs2 : Rising ss := by rw [HSS.out]; exact HSZ.out.rising _ (List.getElem_mem hpc)
          obtain ⟨p2, hp2⟩ : ∃ q, q = plc ss st := ⟨_, rfl⟩
          have hpl2 : p2 ≤ sl := by rw [hp2, HSL.out]; exact plc_le st ss
          have HLS := Lib.hid (fun (k : Nat) (h : k < ss.length) (h2 : k < p2) => plc_lo hrs2 st k h (by rw [← hp2]; exact h2))
          have HGE := Lib.hid (fun (k : Nat) (h : k < ss.length) (h2 : p2 ≤ k) => plc_hi hrs2 st k h (by rw [← hp2]; exact h2))
          have HNE := Lib.hid (fun (k : Nat) (h : k < ss.length) => show ss[k] ≠ st from fun e => by
            have : hasN ss st = true := hasN_iff.2 (by rw [← e]; exact List.getElem_mem h)
            rw [HSS.out, ← HHI.out] at this
            cases this)
          have HIN := Lib.hid (show insN ss st = ss.take p2 ++ [st] ++ ss.drop p2 by unfold insN; rw [hp2])
          clear hrs2 hp2
          go_wp2_with fail
          go_loopw [12, 13, 15] (fun l d x wr => ∃ (k ln : Nat) (A : Option Addr) (cap : Nat), k ≤ sl ∧ ln ≤ k + 1 ∧ l = .slice A ln cap ∧ d = .bool (decide (p2 < k)) ∧ x = .int .i64 k ∧ Below (q9 + 1) M9 wr ∧ M9.heap.size ≤ wr.heap.size ∧ wr.ownsRow M9.heap.size 9 1 (.slice A ln cap) ln ((insK ss p2 st k).map Value.string)) (fun _ _ x _ => sl - (intOf x).toNat)
          case atStart => exact ⟨0, 0, none, 0, Nat.zero_le _, by omega, rfl, by rw [decide_eq_false (by omega)], rfl, Below.refl _ _, Nat.le_refl _, World.ownsRow_nil _ _ _ _⟩
          case round =>
            obtain ⟨k, ln, A1, c1, hk, hln, rfl, rfl, rfl, hbw, hsw, how⟩ := hrel
            have HBW := Lib.hid hbw
            have HS_wr := Lib.hid hsw
            have HOW := Lib.hid how
            clear hbw hsw how
            by_cases hkn : k < sl
            · have hkn2 : (k : Int) < (sl : Int) := by omega
              have hkl : k < ss.length := by rw [← HSL.out]; exact hkn
              obtain ⟨g7, c7', he, _, _, _⟩ := own_form HSO.out (by omega)
              injection he with he1 he2 he3
              subst he1
              subst he3
              have hgq : g7 < q9 := HLQ.out g7 rfl
              obtain ⟨x, hx⟩ : ∃ x, x = ss[k] := ⟨_, rfl⟩
              have m0 := cell_str HSO.out k hkl
              rw [← hx] at m0
              have k0 := (HBW.out.cell (p := ⟨g7, k, none⟩) (by show g7 < q9 + 1; omega)).trans m0
              have HLS1 := Lib.hid (fun h : k < p2 => show cmpN x st < 0 by rw [hx]; exact HLS.out k hkl h)
              have HGE1 := Lib.hid (fun h : p2 ≤ k => show ¬ cmpN x st < 0 from fun h2 => by rw [hx] at h2; have := HGE.out k hkl h; omega)
              have hne : x ≠ st := by rw [hx]; exact HNE.out k hkl
              have HGO := Lib.hid (fun h : k ≠ p2 => show insK ss p2 st (k + 1) = insK ss p2 st k ++ [x] by rw [hx]; exact insK_go _ _ _ k hkl h)
              have HAT := Lib.hid (fun h : k = p2 => show insK ss p2 st (k + 1) = insK ss p2 st k ++ [st] ++ [x] by subst h; rw [hx]; exact insK_at _ _ _ hkl)
              have HM0 := Lib.hid m0
              have HGQ := Lib.hid hgq
              have e_eq : (x.toList == st.toList) = false := by rw [HEQ.out, decide_eq_false hne]
              have hw1 : IntKind.i64.wrap ((k : Int) + 1) = ((k + 1 : Nat) : Int) := IntWalk.i64_in _ (by omega)
              clear hx hne m0 hgq he2
              by_cases hkp : k = p2
              · have e_lt := bl_is (decide_eq_false (HGE1.out (by omega)))
                have HAT1 := Lib.hid (HAT.out hkp)
                have HPK := Lib.hid (show p2 < k + 1 by omega)
                rw [decide_eq_false (show ¬ p2 < k by omega)]
                clear hkp
                go_wp2_with ((at_builtin; refine wpList_append_own _ rfl _ _ 51 rfl M9.heap.size 9 i0 (.string ByteArray.empty) 1 16 Tryz.underlying51 hi0 hz0 hz1 hz2 rfl (by decide) (.slice A1 ln c1) ln ((insK ss p2 st k).map Value.string) rfl (HOW.out.alloc _) ⟨wr.heap.size, 0, none⟩ 1 1 [.string st] rfl rfl (Gn.row_new wr [.string st] 9 wr.heap.size rfl) (by simp [Value.oneCell']) (by unfold maxLen; omega) (by omega) (by simp; have := HS_wr.out; omega) ?_))
                intro va wa ho9 hg9 _
                have HBA := Lib.hid (below_grown2 (q := q9) (HBW.out.alloc (by have := HS_wr.out; have := HQ9S.out; omega) (.cells #[.string st] 9)) (by simp; have := HS_wr.out; have := HQ9S.out; omega) hg9 (fun z hz => by have := Gn.own_block HOW.out z hz; have := HQ9S.out; omega))
                have HS_wa := Lib.hid (show M9.heap.size ≤ wa.heap.size by have := hg9.size; have := HS_wr.out; simp at *; omega)
                have HOA := Lib.hid (show wa.ownsRow M9.heap.size 9 1 va (ln + 1) ((insK ss p2 st k ++ [st]).map Value.string) by rw [List.map_append]; exact ho9)
                obtain ⟨A_wa, c_wa, rfl⟩ := Gn.slice_of ho9
                clear ho9 hg9
                have k0 := (HBA.out.cell (p := ⟨g7, k, none⟩) (by show g7 < q9 + 1; have := HGQ.out; omega)).trans HM0.out
                go_wp2_with ((at_builtin; refine wpList_append_own _ rfl _ _ 51 rfl M9.heap.size 9 i0 (.string ByteArray.empty) 1 16 Tryz.underlying51 hi0 hz0 hz1 hz2 rfl (by decide) (.slice A_wa (ln + 1) c_wa) (ln + 1) ((insK ss p2 st k ++ [st]).map Value.string) rfl (HOA.out.alloc _) ⟨wa.heap.size, 0, none⟩ 1 1 [.string x] rfl rfl (Gn.row_new wa [.string x] 9 wa.heap.size rfl) (by simp [Value.oneCell']) (by unfold maxLen; omega) (by omega) (by simp; have := HS_wa.out; omega) ?_))
                intro vb wb ho9 hg9 _
                have HBB := Lib.hid (below_grown2 (q := q9) (HBA.out.alloc (by have := HS_wa.out; have := HQ9S.out; omega) (.cells #[.string x] 9)) (by simp; have := HS_wa.out; have := HQ9S.out; omega) hg9 (fun z hz => by have := Gn.own_block HOA.out z hz; have := HQ9S.out; omega))
                have HS_wb := Lib.hid (show M9.heap.size ≤ wb.heap.size by have := hg9.size; have := HS_wa.out; simp at *; omega)
                have HOB2 := Lib.hid (show wb.ownsRow M9.heap.size 9 1 vb (ln + 1 + 1) ((insK ss p2 st (k + 1)).map Value.string) by rw [HAT1.out, List.map_append, List.map_append, List.append_assoc]; exact ho9)
                obtain ⟨A_wb, c_wb, rfl⟩ := Gn.slice_of ho9
                clear ho9 hg9
                go_wp2_with fail
                go_roundw
                case rel => exact ⟨k + 1, ln + 1 + 1, A_wb, c_wb, by omega, (by have h1 := HOB2.out.1; rw [List.length_map] at h1; have h2 := insK_len ss p2 st (k + 1) (by rw [← HSL.out]; omega); omega), rfl, by rw [decide_eq_true HPK.out], by go_num, HBB.out, HS_wb.out, HOB2.out⟩
                case measure => simp [intOf]; omega
              · have HGO1 := Lib.hid (HGO.out hkp)
                have hdd : decide (p2 < k) = decide (p2 < k + 1) := by rw [decide_eq_decide]; omega
                by_cases hpk : p2 < k
                · rw [decide_eq_true hpk]
                  rw [decide_eq_true hpk] at hdd
                  have HDD := Lib.hid hdd
                  clear hdd hpk hkp
                  go_wp2_with ((at_builtin; refine wpList_append_own _ rfl _ _ 51 rfl M9.heap.size 9 i0 (.string ByteArray.empty) 1 16 Tryz.underlying51 hi0 hz0 hz1 hz2 rfl (by decide) (.slice A1 ln c1) ln ((insK ss p2 st k).map Value.string) rfl (HOW.out.alloc _) ⟨wr.heap.size, 0, none⟩ 1 1 [.string x] rfl rfl (Gn.row_new wr [.string x] 9 wr.heap.size rfl) (by simp [Value.oneCell']) (by unfold maxLen; omega) (by omega) (by simp; have := HS_wr.out; omega) ?_))
                  intro va wa ho9 hg9 _
                  have HBA := Lib.hid (below_grown2 (q := q9) (HBW.out.alloc (by have := HS_wr.out; have := HQ9S.out; omega) (.cells #[.string x] 9)) (by simp; have := HS_wr.out; have := HQ9S.out; omega) hg9 (fun z hz => by have := Gn.own_block HOW.out z hz; have := HQ9S.out; omega))
                  have HS_wa := Lib.hid (show M9.heap.size ≤ wa.heap.size by have := hg9.size; have := HS_wr.out; simp at *; omega)
                  have HOA := Lib.hid (show wa.ownsRow M9.heap.size 9 1 va (ln + 1) ((insK ss p2 st (k + 1)).map Value.string) by rw [HGO1.out, List.map_append]; exact ho9)
                  obtain ⟨A_wa, c_wa, rfl⟩ := Gn.slice_of ho9
                  clear ho9 hg9
                  go_wp2_with fail
                  go_roundw
                  case rel => exact ⟨k + 1, ln + 1, A_wa, c_wa, by omega, by omega, rfl, by rw [← HDD.out], by go_num, HBA.out, HS_wa.out, HOA.out⟩
                  case measure => simp [intOf]; omega
                · have e_lt := bl_is (decide_eq_true (HLS1.out (by omega)))
                  rw [decide_eq_false hpk]
                  rw [decide_eq_false hpk] at hdd
                  have HDD := Lib.hid hdd
                  clear hdd hpk hkp
                  go_wp2_with ((at_builtin; refine wpList_append_own _ rfl _ _ 51 rfl M9.heap.size 9 i0 (.string ByteArray.empty) 1 16 Tryz.underlying51 hi0 hz0 hz1 hz2 rfl (by decide) (.slice A1 ln c1) ln ((insK ss p2 st k).map Value.string) rfl (HOW.out.alloc _) ⟨wr.heap.size, 0, none⟩ 1 1 [.string x] rfl rfl (Gn.row_new wr [.string x] 9 wr.heap.size rfl) (by simp [Value.oneCell']) (by unfold maxLen; omega) (by omega) (by simp; have := HS_wr.out; omega) ?_))
                  intro va wa ho9 hg9 _
                  have HBA := Lib.hid (below_grown2 (q := q9) (HBW.out.alloc (by have := HS_wr.out; have := HQ9S.out; omega) (.cells #[.string x] 9)) (by simp; have := HS_wr.out; have := HQ9S.out; omega) hg9 (fun z hz => by have := Gn.own_block HOW.out z hz; have := HQ9S.out; omega))
                  have HS_wa := Lib.hid (show M9.heap.size ≤ wa.heap.size by have := hg9.size; have := HS_wr.out; simp at *; omega)
                  have HOA := Lib.hid (show wa.ownsRow M9.heap.size 9 1 va (ln + 1) ((insK ss p2 st (k + 1)).map Value.string) by rw [HGO1.out, List.map_append]; exact ho9)
                  obtain ⟨A_wa, c_wa, rfl⟩ := Gn.slice_of ho9
                  clear ho9 hg9
                  go_wp2_with fail
                  go_roundw
                  case rel => exact ⟨k + 1, ln + 1, A_wa, c_wa, by omega, by omega, rfl, by rw [← HDD.out], by go_num, HBA.out, HS_wa.out, HOA.out⟩
                  case measure => simp [intOf]; omega
            · have hkn2 : ¬ (k : Int) < (sl : Int) := by omega
              have hke : k = sl := by omega
              rw [hke]
              rw [hke] at HOW hkn2
              clear hke hkn
              have HR := Lib.hid (show joinM r cl st = .ok ⟨r.ms, r.cs.set p ⟨r.cs[p].name, r.cs[p].teacher, insN ss st⟩⟩ by rw [HPT.out, HSS.out])
              clear b1 s2
              by_cases hpn : p2 < sl
              · rw [decide_eq_true hpn]
                have HIE := Lib.hid (show insK ss p2 st sl = insN ss st by rw [HIN.out, HSL.out]; exact insK_end _ _ _ (by rw [← HSL.out]; exact hpn))
                rw [HIE.out] at HOW
                have HLN := Lib.hid (show (insN ss st).length = ln by have h1 := HOW.out.1; rw [List.length_map] at h1; omega)
                clear hpn
                have HCW := Lib.hid (HCP.out.mid HLT.out (HBW.out.mono (Nat.le_succ q9)))
                have HRW := Lib.hid (show wr.ownsRow w5.heap.size 57 3 (.slice (some ⟨g, 0, none⟩) m dc) m (cellsOf encC raw9) by have := HCW.out.rc; rwa [← HMM.out] at this)
                have hx9 := (HBW.out.block q9 (by omega)).trans HXq9.out
                have hpr : p < raw9.length := by omega
                have s2 : ∃ sv, wr.cell? ⟨g, p * 3 + 2, none⟩ = some sv := ⟨_, (cell_cls HRW.out p hpr).2.2⟩
                obtain ⟨sv2, s2⟩ := s2
                have f2 := own_free HRW.out (p * 3 + 2)
                have b1 := cell_of_row _ _ 1 _ _ (0, 0) hx9
                obtain ⟨W8, hW8⟩ : ∃ W8, W8 = wr.setCell ⟨g, p * 3 + 2, none⟩ (.slice A1 ln c1) := ⟨_, rfl⟩
                have HOB := Lib.hid (show OpB W W8 (.slice Am n cm) (.slice (some ⟨b5, 0, none⟩) m cc) by rw [hW8]; exact (HOB.out.above HLOq9.out (HBW.out.mono (Nat.le_succ q9))).above (Nat.le_refl _) ((Below.refl _ wr).setCell (p := ⟨g, p * 3 + 2, none⟩) HGB.out _))
                have HX8 := Lib.hid (show W8.heap[q9]? = some (.cells #[.slice Bm n dm, .slice (some ⟨g, 0, none⟩) m dc] 31 (0, 0)) by rw [hW8]; exact (set_far q9 HQG.out).trans hx9)
                have HW8 := Lib.hid hW8
                have HCQ := Lib.hid (show CpAt w5.heap.size W8 r.ms (r.cs.set p ⟨r.cs[p].name, r.cs[p].teacher, insN ss st⟩) (raw9.set p ⟨raw9[p].name, raw9[p].teacher, (.slice A1 ln c1)⟩) (.slice Bm n dm) (.slice (some ⟨g, 0, none⟩) m dc) from by
                  rw [hW8]
                  exact HCW.out.setC HMM.out.symm p hpc (by
                    have hl : (insN ss st).length = ln := HLN.out
                    rw [hl]
                    exact own_low HOW.out (by have := HQ9S.out; have := HBS.out; omega)) hpr)
                clear hW8 hx9
                go_upto_region 23 with fail
                rw [← HW8.out]
                clear b1 s2 f2
                have HRS := Lib.hid (HOB.out.full HCQ.out hlo1).1
                have HFU := Lib.hid (HOB.out.full HCQ.out hlo1).2
                have r0' := cell_of_row _ _ 0 _ _ (0, 0) HOB.out.res
                have r1' := cell_of_row _ _ 1 _ _ (0, 0) HOB.out.res
                have g0' := Gn.frozen_row HOB.out.res 0
                have g1' := Gn.frozen_row HOB.out.res 1
                have o0' := cell_of_row _ _ 0 _ _ (0, 0) HX8.out
                have o1' := cell_of_row _ _ 1 _ _ (0, 0) HX8.out
                go_wp2_with fail
                refine bodyPost_ret (results_ct (P := Tryz.prog) rfl _ _ (W.heap.size + 1) 31 _ (0, 0) _ _ rfl rfl HRS.out Tryz.underlying31 rfl (by kernel_rfl)) rfl ?_
                rw [HR.out]
                exact HFU.out
              · rw [decide_eq_false hpn]
                have HIE := Lib.hid (show insK ss p2 st sl ++ [st] = insN ss st by rw [HIN.out, HSL.out]; exact insK_last _ _ _ (by rw [← HSL.out]; omega))
                clear hpn
                go_wp2_with ((at_builtin; refine wpList_append_own _ rfl _ _ 51 rfl M9.heap.size 9 i0 (.string ByteArray.empty) 1 16 Tryz.underlying51 hi0 hz0 hz1 hz2 rfl (by decide) (.slice A1 ln c1) ln ((insK ss p2 st sl).map Value.string) rfl (HOW.out.alloc _) ⟨wr.heap.size, 0, none⟩ 1 1 [.string st] rfl rfl (Gn.row_new wr [.string st] 9 wr.heap.size rfl) (by simp [Value.oneCell']) (by unfold maxLen; omega) (by omega) (by simp; have := HS_wr.out; omega) ?_))
                intro va wa ho9 hg9 _
                have HBA := Lib.hid (below_grown2 (q := q9) (HBW.out.alloc (by have := HS_wr.out; have := HQ9S.out; omega) (.cells #[.string st] 9)) (by simp; have := HS_wr.out; have := HQ9S.out; omega) hg9 (fun z hz => by have := Gn.own_block HOW.out z hz; have := HQ9S.out; omega))
                have HS_wa := Lib.hid (show M9.heap.size ≤ wa.heap.size by have := hg9.size; have := HS_wr.out; simp at *; omega)
                have HOA := Lib.hid (show wa.ownsRow M9.heap.size 9 1 va (ln + 1) ((insN ss st).map Value.string) by rw [← HIE.out, List.map_append]; exact ho9)
                obtain ⟨A_wa, c_wa, rfl⟩ := Gn.slice_of ho9
                clear ho9 hg9
                have HLN := Lib.hid (show (insN ss st).length = ln + 1 by have h1 := HOA.out.1; rw [List.length_map] at h1; omega)
                have HCW := Lib.hid (HCP.out.mid HLT.out (HBA.out.mono (Nat.le_succ q9)))
                have HRW := Lib.hid (show wa.ownsRow w5.heap.size 57 3 (.slice (some ⟨g, 0, none⟩) m dc) m (cellsOf encC raw9) by have := HCW.out.rc; rwa [← HMM.out] at this)
                have hx9 := (HBA.out.block q9 (by omega)).trans HXq9.out
                have hpr : p < raw9.length := by omega
                have s2 : ∃ sv, wa.cell? ⟨g, p * 3 + 2, none⟩ = some sv := ⟨_, (cell_cls HRW.out p hpr).2.2⟩
                obtain ⟨sv2, s2⟩ := s2
                have f2 := own_free HRW.out (p * 3 + 2)
                have b1 := cell_of_row _ _ 1 _ _ (0, 0) hx9
                obtain ⟨W8, hW8⟩ : ∃ W8, W8 = wa.setCell ⟨g, p * 3 + 2, none⟩ (.slice A_wa (ln + 1) c_wa) := ⟨_, rfl⟩
                have HOB := Lib.hid (show OpB W W8 (.slice Am n cm) (.slice (some ⟨b5, 0, none⟩) m cc) by rw [hW8]; exact (HOB.out.above HLOq9.out (HBA.out.mono (Nat.le_succ q9))).above (Nat.le_refl _) ((Below.refl _ wa).setCell (p := ⟨g, p * 3 + 2, none⟩) HGB.out _))
                have HX8 := Lib.hid (show W8.heap[q9]? = some (.cells #[.slice Bm n dm, .slice (some ⟨g, 0, none⟩) m dc] 31 (0, 0)) by rw [hW8]; exact (set_far q9 HQG.out).trans hx9)
                have HW8 := Lib.hid hW8
                have HCQ := Lib.hid (show CpAt w5.heap.size W8 r.ms (r.cs.set p ⟨r.cs[p].name, r.cs[p].teacher, insN ss st⟩) (raw9.set p ⟨raw9[p].name, raw9[p].teacher, (.slice A_wa (ln + 1) c_wa)⟩) (.slice Bm n dm) (.slice (some ⟨g, 0, none⟩) m dc) from by
                  rw [hW8]
                  exact HCW.out.setC HMM.out.symm p hpc (by
                    have hl : (insN ss st).length = (ln + 1) := HLN.out
                    rw [hl]
                    exact own_low HOA.out (by have := HQ9S.out; have := HBS.out; omega)) hpr)
                clear hW8 hx9
                go_upto_region 23 with fail
                rw [← HW8.out]
                clear b1 s2 f2
                have HRS := Lib.hid (HOB.out.full HCQ.out hlo1).1
                have HFU := Lib.hid (HOB.out.full HCQ.out hlo1).2
                have r0' := cell_of_row _ _ 0 _ _ (0, 0) HOB.out.res
                have r1' := cell_of_row _ _ 1 _ _ (0, 0) HOB.out.res
                have g0' := Gn.frozen_row HOB.out.res 0
                have g1' := Gn.frozen_row HOB.out.res 1
                have o0' := cell_of_row _ _ 0 _ _ (0, 0) HX8.out
                have o1' := cell_of_row _ _ 1 _ _ (0, 0) HX8.out
                go_wp2_with fail
                refine bodyPost_ret (results_ct (P := Tryz.prog) rfl _ _ (W.heap.size + 1) 31 _ (0, 0) _ _ rfl rfl HRS.out Tryz.underlying31 rfl (by kernel_rfl)) rfl ?_
                rw [HR.out]
                exact HFU.out
      · have hr1 : (fr == 1) = false := by rw [beq_eq_false_iff_ne]; exact hr
        have hr2 : (fr != 1) = true := by rw [bne, hr1]; rfl
        have HR := Lib.hid (show joinM r cl st = .error 13 by unfold joinM; rw [if_neg (by rw [← HHH.out]; decide), if_neg (by rw [← HHF.out]; decide), if_neg (by rw [← HFR.out]; exact hr)])
        have HRS := Lib.hid HOB.out.exit.1
        have HBE := Lib.hid HOB.out.exit.2
        have r0' := cell_of_row _ _ 0 _ _ (0, 0) HOB.out.res
        have r1' := cell_of_row _ _ 1 _ _ (0, 0) HOB.out.res
        have g0' := Gn.frozen_row HOB.out.res 0
        have g1' := Gn.frozen_row HOB.out.res 1
        go_wp2_with fail
        refine bodyPost_ret (results_ct (P := Tryz.prog) rfl _ _ (W.heap.size + 1) 31 _ (0, 0) _ _ rfl rfl HRS.out Tryz.underlying31 rfl (by kernel_rfl)) rfl ?_
        rw [HR.out]
        exact ⟨_, rfl, rl_zero _ _, HBE.out⟩
end Go.Proofs.YtnmhgjoofgmcgaaGreat.Rl
