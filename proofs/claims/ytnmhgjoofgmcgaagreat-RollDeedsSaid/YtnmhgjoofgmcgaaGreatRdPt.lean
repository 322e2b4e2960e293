/-
  Layer 18: the document's Open.
  Layer 18: the document's Grant.
  Layer 18: the document's Part.
-/
import Derived.Test.YtnmhgjoofgmcgaaGreatRdE
import Derived.Deep.RegionHeld3
import Derived.Deep.DeepCutAuto
import Derived.Test.YtnmhgjoofgmcgaaGreatRlGrant
import Derived.Test.YtnmhgjoofgmcgaaGreatRlPt

namespace Go.Proofs.YtnmhgjoofgmcgaaGreat.Rl
open Go.RowKit
open Fx (StrsAt)
set_option maxRecDepth 100000
set_option linter.unusedSimpArgs false
set_option linter.unusedVariables false
theorem below_own {q : Nat} {M w w' : World} {o : Option Nat} (hb : Below q M w) (hq : q < w.heap.size) (hg : w.grownBy w' o) (ho : ∀ k, o = some k → q < k) : Below q M w' := (below_grown hb hq hg ho).2
set_option maxHeartbeats 16000000 in
theorem dopen_any (r : Rol) (cl tc : ByteArray) (hsz : Sized r) (hcl : cl.size ≤ 9223372036854775807) (P : Nat → Prop) (W : World) (v : Value) (h : RlAt P W r v) :
    Calls Tryz.prog 29 #[v, .string cl, .string tc] W (OpOut W (openM r cl tc)) := by
  have hn := hsz.ms
  have hm := hsz.cs
  have HST := Lib.hid hsz.studs
  have HCOP := Lib.hid (fun (w : World) (v : Value) (h : RlAt P w r v) => copy0_any r (by have := hsz.ms; omega) (by have := hsz.cs; omega) (fun c hc => by have := hsz.studs c hc; omega) P w v h)
  have HFI := Lib.hid (fun (nm : ByteArray) (w : World) (v : Value) (h : RlAt P w r v) => find2_any r nm hsz.names (by have := hsz.ms; omega) P w v h)
  have HOF := Lib.hid (fun (nm : ByteArray) (w : World) (v : Value) (h : RlAt P w r v) => of_any r nm P w v h hsz.classes (by have := hsz.cs; omega))
  have HEQ := Lib.hid bytes_eq
  have HSZ := Lib.hid hsz
  obtain ⟨Am, cm, Ac, cc, rfl, hms, hcs⟩ := h.form
  obtain ⟨raws, hrow, hall⟩ := hcs
  have hrl : raws.length = r.cs.length := hall.1
  obtain ⟨n, hnn⟩ : ∃ n, n = r.ms.length := ⟨_, rfl⟩
  obtain ⟨m, hmm⟩ : ∃ m, m = r.cs.length := ⟨_, rfl⟩
  rw [← hnn] at hms hn
  rw [← hmm] at hrow hm hrl
  rw [← hnn, ← hmm] at h ⊢
  obtain ⟨V, hV⟩ : ∃ V, V = (W.alloc (.cells #[.slice Am n cm, .slice Ac m cc] 31)).alloc (.cells #[.slice none 0 0, .slice none 0 0] 31) := ⟨_, rfl⟩
  have hb : Below W.heap.size W V := by rw [hV]; exact ((Below.refl _ W).alloc (Nat.le_refl _) _).alloc (by simp) _
  have HOB := Lib.hid (show OpB W V (.slice Am n cm) (.slice Ac m cc) from ⟨hb, by rw [hV]; exact (heap_alloc_old _ _ (by simp)).trans (heap_alloc_new W _), by
    rw [hV]; have := heap_alloc_new (W.alloc (.cells #[.slice Am n cm, .slice Ac m cc] 31)) (.cells #[.slice none 0 0, .slice none 0 0] 31); simpa using this⟩)
  have HRL := Lib.hid (h.under hb)
  have HRO := Lib.hid (fun (w : World) (b : Below W.heap.size W w) => RowAt.under hrow b)
  have HAL := Lib.hid (fun (w : World) (b : Below W.heap.size W w) (i : Nat) (h1 : i < raws.length) (h2 : i < r.cs.length) => (⟨(hall.2 i h1 h2).1, (hall.2 i h1 h2).2.1, (hall.2 i h1 h2).2.2.under b⟩ : raws[i].name = r.cs[i].name ∧ raws[i].teacher = r.cs[i].teacher ∧ StrsAt P w r.cs[i].studs raws[i].studs))
  have HV := Lib.hid hV
  have HNN := Lib.hid hnn
  have HMM := Lib.hid hmm
  have HRLN := Lib.hid hrl
  clear hsz h hms hrow hall hrl hb hV hnn hmm
  go_enter Tryz.func29, Tryz.ntmps29
  go_upto_region 1 with fail
  rw [← HV.out]
  obtain ⟨i1, hi1, hy0, hy1, hy2⟩ := info_parts DC_info
  have HGD := Lib.hid (fun w => Lx.rgood_any cl w hcl)
  obtain ⟨gd, hgd⟩ : ∃ x, x = Lx.goodB (Lx.bs cl) := ⟨_, rfl⟩
  rw [← hgd] at HGD
  have HGB := Lib.hid hgd
  clear hgd hcl
  have x0 := cell_of_row _ _ 0 _ _ (0, 0) HOB.out.rbox
  have x1 := cell_of_row _ _ 1 _ _ (0, 0) HOB.out.rbox
  go_wp2_with fail
  refine (HGD.out V).mono ?_
  rintro e w1 ⟨rfl, rfl⟩
  cases gd with
  | false =>
    have HR := Lib.hid (show openM r cl tc = .error 8 by unfold openM; rw [if_pos HGB.out.symm])
    have HRS := Lib.hid HOB.out.exit.1
    have HBE := Lib.hid HOB.out.exit.2
    have r0' := cell_of_row _ _ 0 _ _ (0, 0) HOB.out.res
    have r1' := cell_of_row _ _ 1 _ _ (0, 0) HOB.out.res
    have g0' := Gn.frozen_row HOB.out.res 0
    have g1' := Gn.frozen_row HOB.out.res 1
    go_wp2_with fail
    refine bodyPost_ret (results_ct (P := Tryz.prog) rfl _ _ (W.heap.size + 1) 31 _ (0, 0) _ _ rfl rfl HRS.out Tryz.underlying31 rfl (by kernel_rfl)) rfl ?_
    rw [HR.out]
    exact ⟨_, rfl, rl_zero _ _, HBE.out⟩
  | true =>
    go_wp2_with fail
    refine (HOF.out cl _ _ HRL.out).mono ?_
    rintro e w1 ⟨rfl, hb1⟩
    have HOB := Lib.hid (HOB.out.under hb1)
    have HRL := Lib.hid (HRL.out.under hb1)
    clear hb1
    clear x0 x1
    have x0 := cell_of_row _ _ 0 _ _ (0, 0) HOB.out.rbox
    have x1 := cell_of_row _ _ 1 _ _ (0, 0) HOB.out.rbox
    obtain ⟨hc, hhc⟩ : ∃ x, x = hasN r.classes cl := ⟨_, rfl⟩
    have HHC := Lib.hid hhc
    clear hhc
    cases hc with
    | true =>
      obtain ⟨p, hp⟩ : ∃ p, p = plc r.classes cl := ⟨_, rfl⟩
      have HOI := Lib.hid (show ofI r.classes cl = (p : Int) by unfold ofI; rw [← HHC.out, hp]; rfl)
      rw [HOI.out]
      clear hp
      have HR := Lib.hid (show openM r cl tc = .error 9 by unfold openM; rw [if_neg (by rw [← HGB.out]; decide), if_pos HHC.out.symm])
      have HRS := Lib.hid HOB.out.exit.1
      have HBE := Lib.hid HOB.out.exit.2
      have r0' := cell_of_row _ _ 0 _ _ (0, 0) HOB.out.res
      have r1' := cell_of_row _ _ 1 _ _ (0, 0) HOB.out.res
      have g0' := Gn.frozen_row HOB.out.res 0
      have g1' := Gn.frozen_row HOB.out.res 1
      go_wp2_with fail
      refine bodyPost_ret (results_ct (P := Tryz.prog) rfl _ _ (W.heap.size + 1) 31 _ (0, 0) _ _ rfl rfl HRS.out Tryz.underlying31 rfl (by kernel_rfl)) rfl ?_
      rw [HR.out]
      exact ⟨_, rfl, rl_zero _ _, HBE.out⟩
    | false =>
      have HOI := Lib.hid (show ofI r.classes cl = -1 by unfold ofI; rw [← HHC.out]; rfl)
      rw [HOI.out]
      go_wp2_with fail
      refine (HFI.out tc _ _ HRL.out).mono ?_
      rintro e w2 ⟨rfl, hb2⟩
      have HOB := Lib.hid (HOB.out.under hb2)
      have HRL := Lib.hid (HRL.out.under hb2)
      clear hb2
      obtain ⟨fn, hfn⟩ : ∃ x, x = (findM r tc).name := ⟨_, rfl⟩
      obtain ⟨fr, hfr⟩ : ∃ x, x = (findM r tc).role := ⟨_, rfl⟩
      obtain ⟨fq, hfq⟩ : ∃ x, x = (findM r tc).quota := ⟨_, rfl⟩
      obtain ⟨hh, hhh⟩ : ∃ x, x = hasN r.names tc := ⟨_, rfl⟩
      rw [← hfn, ← hfr, ← hfq, ← hhh]
      have HHH := Lib.hid hhh
      have HFR := Lib.hid hfr
      clear hfn hfr hfq hhh x0 x1
      obtain ⟨M1, hM1⟩ : ∃ M, M = w2.alloc (.cells #[.string fn, .int .i64 fr, .int .i64 fq] 48) := ⟨_, rfl⟩
      obtain ⟨q1, hq1⟩ : ∃ q, q = w2.heap.size := ⟨_, rfl⟩
      have hbM1 : Below w2.heap.size w2 M1 := by rw [hM1]; exact (Below.refl _ _).alloc (Nat.le_refl _) _
      have HXq1 := Lib.hid (show M1.heap[q1]? = some (.cells #[.string fn, .int .i64 fr, .int .i64 fq] 48 (0, 0)) by rw [hM1, hq1]; exact heap_alloc_new _ _)
      have HLOq1 := Lib.hid (show W.heap.size + 2 ≤ q1 by rw [hq1]; exact HOB.out.lt)
      have HOB := Lib.hid (HOB.out.under hbM1)
      have HRL := Lib.hid (HRL.out.under hbM1)
      have HM1 := Lib.hid hM1
      have Hq1E := Lib.hid hq1
      clear hM1 hq1 hbM1
      go_upto_region 6 with fail
      rw [← HM1.out, ← Hq1E.out]
      have m1 := cell_of_row _ _ 1 _ _ (0, 0) HXq1.out
      have x0 := cell_of_row _ _ 0 _ _ (0, 0) HOB.out.rbox
      have x1 := cell_of_row _ _ 1 _ _ (0, 0) HOB.out.rbox
      cases hh with
      | false =>
        have HR := Lib.hid (show openM r cl tc = .error 10 by unfold openM; rw [if_neg (by rw [← HGB.out]; decide), if_neg (by rw [← HHC.out]; decide), if_pos HHH.out.symm])
        have HRS := Lib.hid HOB.out.exit.1
        have HBE := Lib.hid HOB.out.exit.2
        have r0' := cell_of_row _ _ 0 _ _ (0, 0) HOB.out.res
        have r1' := cell_of_row _ _ 1 _ _ (0, 0) HOB.out.res
        have g0' := Gn.frozen_row HOB.out.res 0
        have g1' := Gn.frozen_row HOB.out.res 1
        go_wp2_with fail
        refine bodyPost_ret (results_ct (P := Tryz.prog) rfl _ _ (W.heap.size + 1) 31 _ (0, 0) _ _ rfl rfl HRS.out Tryz.underlying31 rfl (by kernel_rfl)) rfl ?_
        rw [HR.out]
        exact ⟨_, rfl, rl_zero _ _, HBE.out⟩
      | true =>
        by_cases hr : fr = 2
        · have hr1 : (fr == 2) = true := by rw [beq_iff_eq]; exact hr
          have hr2 : (fr != 2) = false := by rw [bne, hr1]; rfl
          have HTT := Lib.hid (show openM r cl tc = if 32 ≤ r.cs.length then .error 12 else .ok ⟨r.ms, r.cs.take (plc r.classes cl) ++ [⟨cl, tc, []⟩] ++ r.cs.drop (plc r.classes cl)⟩ by unfold openM; rw [if_neg (by rw [← HGB.out]; decide), if_neg (by rw [← HHC.out]; decide), if_neg (by rw [← HHH.out]; decide), if_pos (by rw [← HFR.out]; exact hr)])
          clear hr
          by_cases hm32 : 32 ≤ m
          · have hm3 : (32 : Int) ≤ (m : Int) := by omega
            have HR := Lib.hid (show openM r cl tc = .error 12 by rw [HTT.out, if_pos (by rw [← HMM.out]; exact hm32)])
            have HRS := Lib.hid HOB.out.exit.1
            have HBE := Lib.hid HOB.out.exit.2
            have r0' := cell_of_row _ _ 0 _ _ (0, 0) HOB.out.res
            have r1' := cell_of_row _ _ 1 _ _ (0, 0) HOB.out.res
            have g0' := Gn.frozen_row HOB.out.res 0
            have g1' := Gn.frozen_row HOB.out.res 1
            go_wp2_with fail
            refine bodyPost_ret (results_ct (P := Tryz.prog) rfl _ _ (W.heap.size + 1) 31 _ (0, 0) _ _ rfl rfl HRS.out Tryz.underlying31 rfl (by kernel_rfl)) rfl ?_
            rw [HR.out]
            exact ⟨_, rfl, rl_zero _ _, HBE.out⟩
          · have hm3 : ¬ (32 : Int) ≤ (m : Int) := by omega
            obtain ⟨p, hp⟩ : ∃ p, p = plc r.classes cl := ⟨_, rfl⟩
            have hpl : p ≤ m := by rw [hp, HMM.out]; have := plc_le cl r.classes; simpa [Rol.classes] using this
            have HR := Lib.hid (show openM r cl tc = .ok ⟨r.ms, r.cs.take p ++ [⟨cl, tc, []⟩] ++ r.cs.drop p⟩ by rw [HTT.out, if_neg (by rw [← HMM.out]; exact hm32), hp])
            have HLS := Lib.hid (fun (k : Nat) (h : k < r.cs.length) (h2 : k < p) => show cmpN r.cs[k].name cl < 0 from by
              have := plc_lo HSZ.out.classes cl k (by simpa [Rol.classes] using h) (by rw [← hp]; exact h2)
              simpa [Rol.classes] using this)
            have HGE := Lib.hid (fun (k : Nat) (h : k < r.cs.length) (h2 : p ≤ k) => show ¬ cmpN r.cs[k].name cl < 0 from by
              have := plc_hi HSZ.out.classes cl k (by simpa [Rol.classes] using h) (by rw [← hp]; exact h2)
              simpa [Rol.classes] using this)
            clear hp hm32
            go_wp2_with fail
            refine (HCOP.out M1 _ HRL.out).mono ?_
            rintro e w4 ⟨vm, vc, raw9, rfl, hcp, hb4⟩
            have hlo1 := HOB.out.lt
            have hb4' := hb4
            have HOB := Lib.hid (HOB.out.under hb4)
            have HRL := Lib.hid (HRL.out.under hb4)
            clear hb4
            obtain ⟨w5, hw5⟩ : ∃ w, w = M1 := ⟨_, rfl⟩
            rw [← hw5] at hcp hlo1 hb4'
            clear hw5
            obtain ⟨Bm, dm, rfl⟩ := Gn.slice_of hcp.rm
            have hl9 : raw9.length = m := by rw [hcp.len, HMM.out]
            clear x0 x1 m1 hr1 hr2 hm3
            have hform : (vc = .slice none 0 0 ∧ m = 0) ∨ ∃ g dc, vc = .slice (some ⟨g, 0, none⟩) r.cs.length dc ∧ m ≤ dc := by
              rw [HMM.out]
              rcases hcp.rc.2 with ⟨h1, h2⟩ | ⟨g', cap, cur, h1, h2, h3, h4, _⟩
              · exact .inl ⟨h1, h2⟩
              · exact .inr ⟨g', cap, h1, h4⟩
            rcases hform with ⟨rfl, hm00⟩ | ⟨g, dc, rfl, hdc⟩
            · have HP0 := Lib.hid (show p = 0 by omega)
              have HM00 := Lib.hid hm00
              clear hm00
              obtain ⟨M9, hM9⟩ : ∃ M, M = w4.alloc (.cells #[.slice Bm r.ms.length dm, .slice none 0 0] 31) := ⟨_, rfl⟩
              obtain ⟨q9, hq9⟩ : ∃ q, q = w4.heap.size := ⟨_, rfl⟩
              have hbM9 : Below w4.heap.size w4 M9 := by rw [hM9]; exact (Below.refl _ _).alloc (Nat.le_refl _) _
              have HXq9 := Lib.hid (show M9.heap[q9]? = some (.cells #[.slice Bm r.ms.length dm, .slice none 0 0] 31 (0, 0)) by rw [hM9, hq9]; exact heap_alloc_new _ _)
              have HLOq9 := Lib.hid (show W.heap.size + 2 ≤ q9 by rw [hq9]; exact HOB.out.lt)
              have HOB := Lib.hid (HOB.out.under hbM9)
              have HRL := Lib.hid (HRL.out.under hbM9)
              have HM9 := Lib.hid hM9
              have Hq9E := Lib.hid hq9
              have HCP := Lib.hid (hcp.under hbM9)
              have HLT := Lib.hid (show LtQ q9 raw9 (.slice Bm r.ms.length dm) (.slice none 0 0) by rw [hq9]; exact hcp.ltq)
              have HQ9S := Lib.hid (show q9 < M9.heap.size by rw [hM9, hq9]; simp)
              have HBS := Lib.hid (show w5.heap.size ≤ q9 by rw [hq9]; exact hb4'.size)
              clear hcp hM9 hq9 hbM9 hb4'
              go_upto_region 13 with fail
              rw [← HM9.out, ← Hq9E.out]
              rw [← HNN.out] at HCP HLT HXq9
              rw [← HNN.out]
              have b1 := cell_of_row _ _ 1 _ _ (0, 0) HXq9.out
              go_upto_block 0 with fail
              go_cut [11] (fun x wx => x = .int .i64 0 ∧ M9 = wx)
              case first =>
                go_wp2_with fail
                go_loopw [11] (fun x wr => x = .int .i64 0 ∧ M9 = wr) (fun x _ => 0)
                case atStart => exact ⟨rfl, rfl⟩
                case round =>
                  obtain ⟨rfl, rfl⟩ := hrel
                  go_wp2_with fail
                  go_meet
                  case rel => exact ⟨rfl, rfl⟩
              case rest =>
                obtain ⟨rfl, rfl⟩ := hcut
                have hs1 : ∀ w, (Instr.slice 29 (.slice none 0 0) none (some (.int .i64 0)) none).run Tryz.prog w = .ok (.slice none 0 0) w := fun w => by kernel_rfl
                have hs2 : ∀ w, (Instr.slice 29 (.slice none 0 0) (some (.int .i64 0)) none none).run Tryz.prog w = .ok (.slice none 0 0) w := fun w => by kernel_rfl
                go_upto_region 18 with fail
                obtain ⟨w6, hw6⟩ : ∃ w, w = M9 := ⟨_, rfl⟩
                have HB6 := Lib.hid (show Below q9 M9 w6 by rw [hw6]; exact Below.refl _ _)
                have HX6 := Lib.hid (show w6.heap[q9]? = some (.cells #[.slice Bm n dm, .slice none 0 0] 31 (0, 0)) by rw [hw6]; exact HXq9.out)
                have HO6 := Lib.hid (show w6.ownsRow M9.heap.size 57 3 (.slice none 0 0) 0 [] from World.ownsRow_nil _ _ _ _)
                have HS6 := Lib.hid (show M9.heap.size ≤ w6.heap.size by rw [hw6]; exact Nat.le_refl _)
                have HOG := Lib.hid (show ∀ z, (Value.slice none 0 0).ownBlock = some z → q9 < z from fun z hz => by cases hz)
                have HW6 := Lib.hid hw6
                clear b1 hw6
                rw [← HW6.out]
                go_wp2_with ((at_builtin; refine wpList_append_own _ rfl _ _ 29 rfl M9.heap.size 57 i1 _ 3 56 Tryz.underlying29 hi1 hy0 hy1 hy2 rfl (by decide) (.slice none 0 0) 0 [] rfl (HO6.out.alloc _) ⟨w6.heap.size, 0, none⟩ 1 1 (encC ⟨cl, tc, .slice none 0 0⟩) rfl rfl (Gn.row_new w6 (encC ⟨cl, tc, .slice none 0 0⟩) 57 w6.heap.size rfl) (by intro u hu; simp [encC] at hu; rcases hu with rfl | rfl | rfl <;> rfl) (by unfold maxLen; omega) (by omega) (by simp; have := HS6.out; omega) ?_))
                intro va wa hoa hga _
                have HBA := Lib.hid (below_grown (q := q9) (HB6.out.alloc (by have := HS6.out; have := HQ9S.out; omega) (.cells #[.string cl, .string tc, .slice none 0 0] 57)) (by simp; have := HS6.out; have := HQ9S.out; omega) hga HOG.out)
                have HXA := Lib.hid ((HBA.out.1.block _ (by omega)).trans ((heap_alloc_old w6 _ (by have := HS6.out; have := HQ9S.out; omega)).trans HX6.out))
                have HOA := Lib.hid hoa
                have HSA := Lib.hid (show M9.heap.size ≤ wa.heap.size by have := hga.size; have := HS6.out; simp at *; omega)
                have HCA := Lib.hid (HCP.out.mid HLT.out HBA.out.2)
                have b1 := cell_of_row _ _ 1 _ _ (0, 0) HXA.out
                obtain ⟨Aa, ca, rfl⟩ := Gn.slice_of hoa
                have HOGA := Lib.hid (show ∀ z, (Value.slice Aa 1 ca).ownBlock = some z → q9 < z from fun z hz => by have := Gn.own_block hoa z hz; have := HQ9S.out; omega)
                have f1 := Gn.frozen_row HXA.out 1
                clear hoa hga
                go_upto_region 20 with ((at_builtin; refine wpList_append_own_none rfl (.tmp 71) (.tmp 75) 29 rfl M9.heap.size 57 i1 3 Tryz.underlying29 hi1 (.slice Aa 1 ca) 1 _ rfl HOA.out rfl ?_))
                obtain ⟨A7, c7, w7, hA7⟩ : ∃ A7 c7 w7, A7 = Aa ∧ c7 = ca ∧ w7 = wa := ⟨_, _, _, rfl, rfl, rfl⟩
                obtain ⟨hA7, hc7, hw7⟩ := hA7
                rw [← hA7, ← hc7, ← hw7]
                have ho7 := HOA.out
                rw [← hA7, ← hc7, ← hw7] at ho7
                have hb7 := HBA.out.2
                rw [← hw7] at hb7
                have HX7 := Lib.hid (show w7.heap[q9]? = some (.cells #[.slice Bm n dm, .slice none 0 0] 31 (0, 0)) by rw [hw7]; exact HXA.out)
                have hlr : r.cs.length = 0 := by rw [← HMM.out]; exact HM00.out
                have hlr9 : raw9.length = 0 := by have := HM00.out; omega
                have HLEN := Lib.hid (show (r.cs.take p ++ [(⟨cl, tc, []⟩ : Cls)] ++ r.cs.drop p).length = 1 by rw [List.length_append, List.length_append, List.length_take, List.length_drop, hlr]; simp [HP0.out])
                have HCEL := Lib.hid (show cellsOf encC (raw9.take p ++ [(⟨cl, tc, .slice none 0 0⟩ : CRaw)] ++ raw9.drop p) = encC ⟨cl, tc, .slice none 0 0⟩ by rw [List.eq_nil_of_length_eq_zero hlr9]; simp [cellsOf])
                clear hA7 hc7 hw7 hlr hlr9 b1 f1
                obtain ⟨W8, hW8⟩ : ∃ W8, W8 = w7.setCell ⟨q9, 1, none⟩ (.slice A7 1 c7) := ⟨_, rfl⟩
                have hb8 : Below q9 M9 W8 := by rw [hW8]; exact hb7.setCell (Nat.le_refl _) _
                have HOB := Lib.hid (HOB.out.above HLOq9.out hb8)
                have HX8 := Lib.hid (show W8.heap[q9]? = some (.cells #[.slice Bm n dm, .slice A7 1 c7] 31 (0, 0)) by rw [hW8]; exact Gn.heap_set HX7.out 1 _)
                have HW8 := Lib.hid hW8
                have b1 := cell_of_row _ _ 1 _ _ (0, 0) HX7.out
                have f1 := Gn.frozen_row HX7.out 1
                have HC8 := Lib.hid (HCP.out.mid HLT.out hb8)
                have HCQ := Lib.hid (show CpAt w5.heap.size W8 r.ms (r.cs.take p ++ [⟨cl, tc, []⟩] ++ r.cs.drop p) (raw9.take p ++ [⟨cl, tc, .slice none 0 0⟩] ++ raw9.drop p) (.slice Bm n dm) (.slice A7 1 c7) from
                  HCP.out.reclass HLT.out hb8 (by
                    rw [HLEN.out, HCEL.out, hW8]
                    exact own_low (own_keep ho7 fun k hk => set_far k (by have := Gn.own_block ho7 k hk; have := HQ9S.out; omega)) (by have := HQ9S.out; have := HBS.out; omega)) (((HC8.out.ownC.take p).app (OwnC.one rfl rfl (World.ownsRow_nil _ _ _ _))).app (HC8.out.ownC.drop p)))
                clear ho7 hW8 hb8
                rw [← HW8.out]
                clear b1 f1
                have HRS := Lib.hid (HOB.out.full HCQ.out hlo1).1
                have HFU := Lib.hid (HOB.out.full HCQ.out hlo1).2
                have r0' := cell_of_row _ _ 0 _ _ (0, 0) HOB.out.res
                have r1' := cell_of_row _ _ 1 _ _ (0, 0) HOB.out.res
                have g0' := Gn.frozen_row HOB.out.res 0
                have g1' := Gn.frozen_row HOB.out.res 1
                have o0' := cell_of_row _ _ 0 _ _ (0, 0) HX8.out
                have o1' := cell_of_row _ _ 1 _ _ (0, 0) HX8.out
                go_wp2_with fail
                refine bodyPost_ret (results_ct (P := Tryz.prog) rfl _ _ (W.heap.size + 1) 31 _ (0, 0) _ _ rfl rfl HRS.out Tryz.underlying31 rfl (by kernel_rfl)) rfl ?_
                rw [HR.out]
                exact HFU.out
            · have hdc0 := hdc
              obtain ⟨M9, hM9⟩ : ∃ M, M = w4.alloc (.cells #[.slice Bm r.ms.length dm, .slice (some ⟨g, 0, none⟩) r.cs.length dc] 31) := ⟨_, rfl⟩
              obtain ⟨q9, hq9⟩ : ∃ q, q = w4.heap.size := ⟨_, rfl⟩
              have hbM9 : Below w4.heap.size w4 M9 := by rw [hM9]; exact (Below.refl _ _).alloc (Nat.le_refl _) _
              have HXq9 := Lib.hid (show M9.heap[q9]? = some (.cells #[.slice Bm r.ms.length dm, .slice (some ⟨g, 0, none⟩) r.cs.length dc] 31 (0, 0)) by rw [hM9, hq9]; exact heap_alloc_new _ _)
              have HLOq9 := Lib.hid (show W.heap.size + 2 ≤ q9 by rw [hq9]; exact HOB.out.lt)
              have HOB := Lib.hid (HOB.out.under hbM9)
              have HRL := Lib.hid (HRL.out.under hbM9)
              have HM9 := Lib.hid hM9
              have Hq9E := Lib.hid hq9
              have HCP := Lib.hid (hcp.under hbM9)
              have HLT := Lib.hid (show LtQ q9 raw9 (.slice Bm r.ms.length dm) (.slice (some ⟨g, 0, none⟩) r.cs.length dc) by rw [hq9]; exact hcp.ltq)
              have HQ9S := Lib.hid (show q9 < M9.heap.size by rw [hM9, hq9]; simp)
              have HBS := Lib.hid (show w5.heap.size ≤ q9 by rw [hq9]; exact hb4'.size)
              clear hcp hM9 hq9 hbM9 hb4'
              go_upto_region 13 with fail
              rw [← HM9.out, ← Hq9E.out]
              rw [← HNN.out, ← HMM.out] at HCP HLT HXq9
              rw [← HNN.out, ← HMM.out]
              have HRC := Lib.hid (show M9.ownsRow w5.heap.size 57 3 (.slice (some ⟨g, 0, none⟩) m dc) m (cellsOf encC raw9) by have := HCP.out.rc; rwa [← HMM.out] at this)
              have b1 := cell_of_row _ _ 1 _ _ (0, 0) HXq9.out
              go_upto_block 0 with fail
              go_cut [11] (fun x wx => x = .int .i64 p ∧ M9 = wx)
              case first =>
                go_wp2_with fail
                go_loopw [11] (fun x wr => ∃ k : Nat, k ≤ p ∧ x = .int .i64 k ∧ M9 = wr) (fun x _ => p - (intOf x).toNat)
                case atStart => exact ⟨0, Nat.zero_le _, rfl, rfl⟩
                case round =>
                  obtain ⟨k, hk, rfl, rfl⟩ := hrel
                  by_cases hkp : k < p
                  · have hkm : (k : Int) < (m : Int) := by omega
                    have hkl : k < raw9.length := by omega
                    have hkc : k < r.cs.length := by rw [← HMM.out]; omega
                    obtain ⟨x, hx⟩ : ∃ x, x = r.cs[k].name := ⟨_, rfl⟩
                    have hc0 := cells_part encC_len HRC.out k 1 0 (.string x) (by
                      rw [List.drop_eq_getElem_cons hkl]
                      show (cellsOf encC [raw9[k]])[0]? = _
                      rw [hx, ← (HCP.out.own k hkl hkc).1]; rfl)
                    have hc1 : M9.cell? ⟨g, k * 3, none⟩ = some (.string x) := hc0
                    have hlt := bl_is (decide_eq_true (p := cmpN x cl < 0) (by rw [hx]; exact HLS.out k hkc hkp))
                    have hw1 : IntKind.i64.wrap ((k : Int) + 1) = ((k + 1 : Nat) : Int) := IntWalk.i64_in _ (by omega)
                    clear hx hc0 hkl hkc
                    go_wp2_with fail
                    go_roundw
                    case rel => exact ⟨k + 1, by omega, by go_num, trivial⟩
                    case measure => simp [intOf]; omega
                  · have hke : k = p := by omega
                    subst hke
                    by_cases hkm : k < m
                    · have hkm2 : (k : Int) < (m : Int) := by omega
                      have hkl : k < raw9.length := by omega
                      have hkc : k < r.cs.length := by rw [← HMM.out]; omega
                      obtain ⟨x, hx⟩ : ∃ x, x = r.cs[k].name := ⟨_, rfl⟩
                      have hc0 := cells_part encC_len HRC.out k 1 0 (.string x) (by
                        rw [List.drop_eq_getElem_cons hkl]
                        show (cellsOf encC [raw9[k]])[0]? = _
                        rw [hx, ← (HCP.out.own k hkl hkc).1]; rfl)
                      have hc1 : M9.cell? ⟨g, k * 3, none⟩ = some (.string x) := hc0
                      have hlt := bl_is (decide_eq_false (p := cmpN x cl < 0) (by rw [hx]; have := HGE.out k hkc (Nat.le_refl _); omega))
                      clear hx hc0 hkl hkc
                      go_wp2_with fail
                      go_meet
                      case rel => exact ⟨rfl, rfl⟩
                    · have hkm2 : ¬ (k : Int) < (m : Int) := by omega
                      go_wp2_with fail
                      go_meet
                      case rel => exact ⟨rfl, rfl⟩
              case rest =>
                obtain ⟨rfl, rfl⟩ := hcut
                have hs1 := slc_to g m dc p (by omega)
                have hcl1 : (cellsOf encC (raw9.take p)).length = p * 3 := by rw [cellsOf_len encC_len, List.length_take]; congr 1; omega
                go_wp2_with ((at_builtin; refine wpList_append_own _ rfl _ _ 29 rfl M9.heap.size 57 i1 _ 3 56 Tryz.underlying29 hi1 hy0 hy1 hy2 rfl (by decide) (.slice none 0 0) 0 [] rfl (World.ownsRow_nil _ _ _ _) ⟨g, 0, none⟩ p dc (cellsOf encC (raw9.take p)) rfl hcl1 (by have := cells_part encC_len HRC.out 0 p; simpa using this) (craw_one (HCP.out.ownC.take p).slices) (by unfold maxLen; omega) (by omega) (Nat.le_refl _) ?_))
                intro v6 w6 ho6 hg6 _
                have hbg := below_grown (q := q9) (Below.refl _ _) HQ9S.out hg6 (fun k hk => by cases hk)
                have HB6 := Lib.hid hbg.2
                have HX6 := Lib.hid ((hbg.1.block _ (by omega)).trans HXq9.out)
                have HO6 := Lib.hid ho6
                have HS6 := Lib.hid hg6.size
                obtain ⟨A6, c6, rfl⟩ := Gn.slice_of ho6
                have HOG := Lib.hid (show ∀ z, (Value.slice A6 p c6).ownBlock = some z → q9 < z from fun z hz => by have := Gn.own_block ho6 z hz; have := HQ9S.out; omega)
                clear ho6 hg6 hbg hcl1 hs1 b1
                go_wp2_with ((at_builtin; refine wpList_append_own _ rfl _ _ 29 rfl M9.heap.size 57 i1 _ 3 56 Tryz.underlying29 hi1 hy0 hy1 hy2 rfl (by decide) (.slice A6 p c6) p _ rfl (HO6.out.alloc _) ⟨w6.heap.size, 0, none⟩ 1 1 (encC ⟨cl, tc, .slice none 0 0⟩) rfl rfl (Gn.row_new w6 (encC ⟨cl, tc, .slice none 0 0⟩) 57 w6.heap.size rfl) (by intro u hu; simp [encC] at hu; rcases hu with rfl | rfl | rfl <;> rfl) (by unfold maxLen; omega) (by omega) (by simp; have := HS6.out; omega) ?_))
                intro va wa hoa hga _
                have HBA := Lib.hid (below_grown (q := q9) (HB6.out.alloc (by have := HS6.out; have := HQ9S.out; omega) (.cells #[.string cl, .string tc, .slice none 0 0] 57)) (by simp; have := HS6.out; have := HQ9S.out; omega) hga HOG.out)
                have HXA := Lib.hid ((HBA.out.1.block _ (by omega)).trans ((heap_alloc_old w6 _ (by have := HS6.out; have := HQ9S.out; omega)).trans HX6.out))
                have HOA := Lib.hid hoa
                have HSA := Lib.hid (show M9.heap.size ≤ wa.heap.size by have := hga.size; have := HS6.out; simp at *; omega)
                have HCA := Lib.hid (HCP.out.mid HLT.out HBA.out.2)
                have b1 := cell_of_row _ _ 1 _ _ (0, 0) HXA.out
                obtain ⟨Aa, ca, rfl⟩ := Gn.slice_of hoa
                have HOGA := Lib.hid (show ∀ z, (Value.slice Aa (p + 1) ca).ownBlock = some z → q9 < z from fun z hz => by have := Gn.own_block hoa z hz; have := HQ9S.out; omega)
                have f1 := Gn.frozen_row HXA.out 1
                clear hoa hga
                have HRA := Lib.hid (show wa.ownsRow w5.heap.size 57 3 (.slice (some ⟨g, 0, none⟩) m dc) m (cellsOf encC raw9) by have := HCA.out.rc; rwa [← HMM.out] at this)
                have hs2 := slc_from g m dc p (by omega)
                have hcl2 : (cellsOf encC (raw9.drop p)).length = (m - p) * 3 := by rw [cellsOf_len encC_len, List.length_drop, hl9]
                go_wp2_with ((at_builtin; refine wpList_append_own _ rfl _ _ 29 rfl M9.heap.size 57 i1 _ 3 56 Tryz.underlying29 hi1 hy0 hy1 hy2 rfl (by decide) (.slice Aa (p + 1) ca) (p + 1) _ rfl HOA.out ⟨g, offC dc p, none⟩ (m - p) (dc - p) (cellsOf encC (raw9.drop p)) rfl hcl2 (cells_rest HRA.out hl9 hdc p) (craw_one (HCP.out.ownC.drop p).slices) (by unfold maxLen; omega) (by omega) HSA.out ?_))
                intro v7 w7 ho7 hg7 _
                have hbg := below_grown (q := q9) HBA.out.2 (by have := HQ9S.out; have := HSA.out; omega) hg7 HOGA.out
                have hb7 := hbg.2
                obtain ⟨A7, c7, rfl⟩ := Gn.slice_of ho7
                have HX7 := Lib.hid ((hbg.1.block _ (by omega)).trans HXA.out)
                have HLEN := Lib.hid (show (r.cs.take p ++ [(⟨cl, tc, []⟩ : Cls)] ++ r.cs.drop p).length = p + 1 + (m - p) by rw [List.length_append, List.length_append, List.length_take, List.length_drop, ← HMM.out]; simp only [List.length_singleton]; omega)
                have HCEL := Lib.hid (show cellsOf encC (raw9.take p ++ [(⟨cl, tc, .slice none 0 0⟩ : CRaw)] ++ raw9.drop p) = cellsOf encC (raw9.take p) ++ (encC ⟨cl, tc, .slice none 0 0⟩ ++ cellsOf encC (raw9.drop p)) by rw [cellsOf_app, cellsOf_app]; simp [cellsOf])
                clear hg7 hbg hs2 hcl2 b1 f1
                obtain ⟨W8, hW8⟩ : ∃ W8, W8 = w7.setCell ⟨q9, 1, none⟩ (.slice A7 (p + 1 + (m - p)) c7) := ⟨_, rfl⟩
                have hb8 : Below q9 M9 W8 := by rw [hW8]; exact hb7.setCell (Nat.le_refl _) _
                have HOB := Lib.hid (HOB.out.above HLOq9.out hb8)
                have HX8 := Lib.hid (show W8.heap[q9]? = some (.cells #[.slice Bm n dm, .slice A7 (p + 1 + (m - p)) c7] 31 (0, 0)) by rw [hW8]; exact Gn.heap_set HX7.out 1 _)
                have HW8 := Lib.hid hW8
                have b1 := cell_of_row _ _ 1 _ _ (0, 0) HX7.out
                have f1 := Gn.frozen_row HX7.out 1
                have HC8 := Lib.hid (HCP.out.mid HLT.out hb8)
                have HCQ := Lib.hid (show CpAt w5.heap.size W8 r.ms (r.cs.take p ++ [⟨cl, tc, []⟩] ++ r.cs.drop p) (raw9.take p ++ [⟨cl, tc, .slice none 0 0⟩] ++ raw9.drop p) (.slice Bm n dm) (.slice A7 (p + 1 + (m - p)) c7) from
                  HCP.out.reclass HLT.out hb8 (by
                    rw [HLEN.out, HCEL.out, hW8]
                    exact own_low (own_keep ho7 fun k hk => set_far k (by have := Gn.own_block ho7 k hk; have := HQ9S.out; omega)) (by have := HQ9S.out; have := HBS.out; omega)) (((HC8.out.ownC.take p).app (OwnC.one rfl rfl (World.ownsRow_nil _ _ _ _))).app (HC8.out.ownC.drop p)))
                clear ho7 hW8 hb8
                go_upto_region 20 with fail
                rw [← HW8.out]
                clear b1 f1
                have HRS := Lib.hid (HOB.out.full HCQ.out hlo1).1
                have HFU := Lib.hid (HOB.out.full HCQ.out hlo1).2
                have r0' := cell_of_row _ _ 0 _ _ (0, 0) HOB.out.res
                have r1' := cell_of_row _ _ 1 _ _ (0, 0) HOB.out.res
                have g0' := Gn.frozen_row HOB.out.res 0
                have g1' := Gn.frozen_row HOB.out.res 1
                have o0' := cell_of_row _ _ 0 _ _ (0, 0) HX8.out
                have o1' := cell_of_row _ _ 1 _ _ (0, 0) HX8.out
                go_wp2_with fail
                refine bodyPost_ret (results_ct (P := Tryz.prog) rfl _ _ (W.heap.size + 1) 31 _ (0, 0) _ _ rfl rfl HRS.out Tryz.underlying31 rfl (by kernel_rfl)) rfl ?_
                rw [HR.out]
                exact HFU.out
        · have hr1 : (fr == 2) = false := by rw [beq_eq_false_iff_ne]; exact hr
          have hr2 : (fr != 2) = true := by rw [bne, hr1]; rfl
          have HR := Lib.hid (show openM r cl tc = .error 13 by unfold openM; rw [if_neg (by rw [← HGB.out]; decide), if_neg (by rw [← HHC.out]; decide), if_neg (by rw [← HHH.out]; decide), if_neg (by rw [← HFR.out]; exact hr)])
          have HRS := Lib.hid HOB.out.exit.1
          have HBE := Lib.hid HOB.out.exit.2
          have r0' := cell_of_row _ _ 0 _ _ (0, 0) HOB.out.res
          have r1' := cell_of_row _ _ 1 _ _ (0, 0) HOB.out.res
          have g0' := Gn.frozen_row HOB.out.res 0
          have g1' := Gn.frozen_row HOB.out.res 1
          go_wp2_with fail
          refine bodyPost_ret (results_ct (P := Tryz.prog) rfl _ _ (W.heap.size + 1) 31 _ (0, 0) _ _ rfl rfl HRS.out Tryz.underlying31 rfl (by kernel_rfl)) rfl ?_
          rw [HR.out]
          exact ⟨_, rfl, rl_zero _ _, HBE.out⟩
end Go.Proofs.YtnmhgjoofgmcgaaGreat.Rl

namespace Go.Proofs.YtnmhgjoofgmcgaaGreat.Rl
open Go.RowKit
open Fx (StrsAt)
set_option maxRecDepth 100000
set_option linter.unusedSimpArgs false
set_option linter.unusedVariables false
/-- The members as they stand in round k. -/
def gM (r : Rol) (p : Nat) (qu : Int) (k : Nat) : List Mem := if p < k then (match r.ms[p]? with | some m => r.ms.set p ⟨m.name, m.role, qu⟩ | none => r.ms) else r.ms
theorem gM_lo (r : Rol) (p : Nat) (qu : Int) (k : Nat) (h : k ≤ p) : gM r p qu k = r.ms := by unfold gM; rw [if_neg (by omega)]
theorem gM_hi (r : Rol) (p : Nat) (qu : Int) (k : Nat) (h : p < k) (hp : p < r.ms.length) : gM r p qu k = r.ms.set p ⟨r.ms[p].name, r.ms[p].role, qu⟩ := by unfold gM; rw [if_pos h, List.getElem?_eq_getElem hp]
theorem gM_len (r : Rol) (p : Nat) (qu : Int) (k : Nat) : (gM r p qu k).length = r.ms.length := by
  unfold gM
  split
  · split
    · rw [List.length_set]
    · rfl
  · rfl
theorem gM_name (r : Rol) (p : Nat) (qu : Int) (k j : Nat) (hj : j < r.ms.length) {h : j < (gM r p qu k).length} : (gM r p qu k)[j].name = r.ms[j].name := by
  by_cases hk : p < k
  · by_cases hp : p < r.ms.length
    · simp only [gM_hi r p qu k hk hp]
      by_cases e : p = j
      · subst e; rw [List.getElem_set_self]
      · rw [List.getElem_set_ne e]
    · have : gM r p qu k = r.ms := by unfold gM; rw [if_pos hk, List.getElem?_eq_none (by omega)]
      simp only [this]
  · simp only [gM_lo r p qu k (by omega)]
theorem gM_same (r : Rol) (p : Nat) (qu : Int) (k : Nat) (h : k ≠ p) : gM r p qu (k + 1) = gM r p qu k := by
  by_cases hk : p < k
  · unfold gM; rw [if_pos hk, if_pos (by omega)]
  · rw [gM_lo r p qu k (by omega), gM_lo r p qu (k + 1) (by omega)]
theorem gM_step {base g n cap : Nat} {w : World} {r : Rol} {p : Nat} {qu : Int} {cs : List Cls} {raws : List CRaw} {vc : Value} {k : Nat} (h : CpAt base w (gM r p qu k) cs raws (.slice (some ⟨g, 0, none⟩) n cap) vc) (hn : (gM r p qu k).length = n) (k' : Nat) (hk : k' = p) (hkl : k' < r.ms.length) (qu' : Int) (he : k' = k := by rfl) (hq : qu' = qu := by rfl) : CpAt base (w.setCell ⟨g, k' * 3 + 2, none⟩ (.int .i64 qu')) (gM r p qu (k' + 1)) cs raws (.slice (some ⟨g, 0, none⟩) n cap) vc := by
  subst he hq hk
  rw [gM_lo r k' qu' k' (Nat.le_refl _)] at h hn
  rw [gM_hi r k' qu' (k' + 1) (by omega) hkl]
  exact h.setM hn k' hkl qu'
set_option maxHeartbeats 16000000 in
theorem dgrant_any (r : Rol) (nm : ByteArray) (qu : Int) (hsz : Sized r) (P : Nat → Prop) (W : World) (v : Value) (h : RlAt P W r v) :
    Calls Tryz.prog 28 #[v, .string nm, .int .i64 qu] W (OpOut W (grantM r nm qu)) := by
  have hn := hsz.ms
  have hm := hsz.cs
  have HST := Lib.hid hsz.studs
  have HCOP := Lib.hid (fun (w : World) (v : Value) (h : RlAt P w r v) => copy0_any r (by have := hsz.ms; omega) (by have := hsz.cs; omega) (fun c hc => by have := hsz.studs c hc; omega) P w v h)
  have HFI := Lib.hid (fun (nm : ByteArray) (w : World) (v : Value) (h : RlAt P w r v) => find2_any r nm hsz.names (by have := hsz.ms; omega) P w v h)
  have HOF := Lib.hid (fun (nm : ByteArray) (w : World) (v : Value) (h : RlAt P w r v) => of_any r nm P w v h hsz.classes (by have := hsz.cs; omega))
  have HEQ := Lib.hid bytes_eq
  have HSZ := Lib.hid hsz
  obtain ⟨Am, cm, Ac, cc, rfl, hms, hcs⟩ := h.form
  obtain ⟨raws, hrow, hall⟩ := hcs
  have hrl : raws.length = r.cs.length := hall.1
  obtain ⟨n, hnn⟩ : ∃ n, n = r.ms.length := ⟨_, rfl⟩
  obtain ⟨m, hmm⟩ : ∃ m, m = r.cs.length := ⟨_, rfl⟩
  rw [← hnn] at hms hn
  rw [← hmm] at hrow hm hrl
  rw [← hnn, ← hmm] at h ⊢
  obtain ⟨V, hV⟩ : ∃ V, V = (W.alloc (.cells #[.slice Am n cm, .slice Ac m cc] 31)).alloc (.cells #[.slice none 0 0, .slice none 0 0] 31) := ⟨_, rfl⟩
  have hb : Below W.heap.size W V := by rw [hV]; exact ((Below.refl _ W).alloc (Nat.le_refl _) _).alloc (by simp) _
  have HOB := Lib.hid (show OpB W V (.slice Am n cm) (.slice Ac m cc) from ⟨hb, by rw [hV]; exact (heap_alloc_old _ _ (by simp)).trans (heap_alloc_new W _), by
    rw [hV]; have := heap_alloc_new (W.alloc (.cells #[.slice Am n cm, .slice Ac m cc] 31)) (.cells #[.slice none 0 0, .slice none 0 0] 31); simpa using this⟩)
  have HRL := Lib.hid (h.under hb)
  have HRO := Lib.hid (fun (w : World) (b : Below W.heap.size W w) => RowAt.under hrow b)
  have HAL := Lib.hid (fun (w : World) (b : Below W.heap.size W w) (i : Nat) (h1 : i < raws.length) (h2 : i < r.cs.length) => (⟨(hall.2 i h1 h2).1, (hall.2 i h1 h2).2.1, (hall.2 i h1 h2).2.2.under b⟩ : raws[i].name = r.cs[i].name ∧ raws[i].teacher = r.cs[i].teacher ∧ StrsAt P w r.cs[i].studs raws[i].studs))
  have HV := Lib.hid hV
  have HNN := Lib.hid hnn
  have HMM := Lib.hid hmm
  have HRLN := Lib.hid hrl
  clear hsz h hms hrow hall hrl hb hV hnn hmm
  go_enter Tryz.func28, Tryz.ntmps28
  go_upto_region 1 with fail
  rw [← HV.out]
  have x0 := cell_of_row _ _ 0 _ _ (0, 0) HOB.out.rbox
  have x1 := cell_of_row _ _ 1 _ _ (0, 0) HOB.out.rbox
  go_wp2_with fail
  refine (HFI.out nm V _ HRL.out).mono ?_
  rintro e w1 ⟨rfl, hb1⟩
  have HOB := Lib.hid (HOB.out.under hb1)
  have HRL := Lib.hid (HRL.out.under hb1)
  clear hb1
  obtain ⟨fn, hfn⟩ : ∃ x, x = (findM r nm).name := ⟨_, rfl⟩
  obtain ⟨fr, hfr⟩ : ∃ x, x = (findM r nm).role := ⟨_, rfl⟩
  obtain ⟨fq, hfq⟩ : ∃ x, x = (findM r nm).quota := ⟨_, rfl⟩
  obtain ⟨hh, hhh⟩ : ∃ x, x = hasN r.names nm := ⟨_, rfl⟩
  rw [← hfn, ← hfr, ← hfq, ← hhh]
  have HHH := Lib.hid hhh
  clear hfn hfr hfq hhh x0 x1
  obtain ⟨M1, hM1⟩ : ∃ M, M = w1.alloc (.cells #[.string fn, .int .i64 fr, .int .i64 fq] 48) := ⟨_, rfl⟩
  obtain ⟨q1, hq1⟩ : ∃ q, q = w1.heap.size := ⟨_, rfl⟩
  have hbM1 : Below w1.heap.size w1 M1 := by rw [hM1]; exact (Below.refl _ _).alloc (Nat.le_refl _) _
  have HXq1 := Lib.hid (show M1.heap[q1]? = some (.cells #[.string fn, .int .i64 fr, .int .i64 fq] 48 (0, 0)) by rw [hM1, hq1]; exact heap_alloc_new _ _)
  have HLOq1 := Lib.hid (show W.heap.size + 2 ≤ q1 by rw [hq1]; exact HOB.out.lt)
  have HOB := Lib.hid (HOB.out.under hbM1)
  have HRL := Lib.hid (HRL.out.under hbM1)
  have HM1 := Lib.hid hM1
  have Hq1E := Lib.hid hq1
  clear hM1 hq1 hbM1
  go_upto_region 2 with fail
  rw [← HM1.out, ← Hq1E.out]
  cases hh with
  | false =>
    have HR := Lib.hid (show grantM r nm qu = .error 10 by unfold grantM; rw [if_pos HHH.out.symm])
    have HRS := Lib.hid HOB.out.exit.1
    have HBE := Lib.hid HOB.out.exit.2
    have r0' := cell_of_row _ _ 0 _ _ (0, 0) HOB.out.res
    have r1' := cell_of_row _ _ 1 _ _ (0, 0) HOB.out.res
    have g0' := Gn.frozen_row HOB.out.res 0
    have g1' := Gn.frozen_row HOB.out.res 1
    go_wp2_with fail
    refine bodyPost_ret (results_ct (P := Tryz.prog) rfl _ _ (W.heap.size + 1) 31 _ (0, 0) _ _ rfl rfl HRS.out Tryz.underlying31 rfl (by kernel_rfl)) rfl ?_
    rw [HR.out]
    exact ⟨_, rfl, rl_zero _ _, HBE.out⟩
  | true =>
    by_cases hqu : 0 ≤ qu ∧ qu ≤ 65536
    · have q0 : ¬ qu < 0 := by omega
      have q1b : ¬ 65536 < qu := by omega
      obtain ⟨p, hp⟩ : ∃ p, p = plc r.names nm := ⟨_, rfl⟩
      have hpl : p < r.ms.length := by rw [hp]; exact plc_lt HSZ.out.names HHH.out.symm
      have HKEY := Lib.hid (fun (j : Nat) (hj : j < r.ms.length) => show r.ms[j].name = nm ↔ j = p from by
        have := plc_at HSZ.out.names nm j (by simpa [Rol.names] using hj)
        rw [← HHH.out, ← hp] at this
        simpa [Rol.names] using this)
      have HR := Lib.hid (show grantM r nm qu = .ok ⟨r.ms.set p ⟨r.ms[p].name, r.ms[p].role, qu⟩, r.cs⟩ by
        unfold grantM
        rw [if_neg (by rw [← HHH.out]; decide), if_neg (by rw [decide_eq_true hqu]; decide), ← hp]
        have : findM r nm = r.ms[p] := by
          unfold findM
          rw [if_pos HHH.out.symm, ← hp, List.getD_eq_getElem?_getD, List.getElem?_eq_getElem hpl]; rfl
        rw [this])
      clear hp hqu
      have x0 := cell_of_row _ _ 0 _ _ (0, 0) HOB.out.rbox
      have x1 := cell_of_row _ _ 1 _ _ (0, 0) HOB.out.rbox
      go_wp2_with fail
      refine (HCOP.out M1 _ HRL.out).mono ?_
      rintro e w4 ⟨vm, vc, raw9, rfl, hcp, hb4⟩
      have hlo1 := HOB.out.lt
      have hb4' := hb4
      have HOB := Lib.hid (HOB.out.under hb4)
      have HRL := Lib.hid (HRL.out.under hb4)
      clear hb4
      obtain ⟨w5, hw5⟩ : ∃ w, w = M1 := ⟨_, rfl⟩
      rw [← hw5] at hcp hlo1 hb4'
      clear hw5
      obtain ⟨Bc, dc, rfl⟩ := Gn.slice_of hcp.rc
      clear x0 x1
      obtain ⟨g, dm, rfl, hdm, hgb, hgl⟩ := own_form hcp.rm (by omega)
      obtain ⟨M9, hM9⟩ : ∃ M, M = w4.alloc (.cells #[.slice (some ⟨g, 0, none⟩) r.ms.length dm, .slice Bc r.cs.length dc] 31) := ⟨_, rfl⟩
      obtain ⟨q9, hq9⟩ : ∃ q, q = w4.heap.size := ⟨_, rfl⟩
      have hbM9 : Below w4.heap.size w4 M9 := by rw [hM9]; exact (Below.refl _ _).alloc (Nat.le_refl _) _
      have HXq9 := Lib.hid (show M9.heap[q9]? = some (.cells #[.slice (some ⟨g, 0, none⟩) r.ms.length dm, .slice Bc r.cs.length dc] 31 (0, 0)) by rw [hM9, hq9]; exact heap_alloc_new _ _)
      have HLOq9 := Lib.hid (show W.heap.size + 2 ≤ q9 by rw [hq9]; exact HOB.out.lt)
      have HOB := Lib.hid (HOB.out.under hbM9)
      have HRL := Lib.hid (HRL.out.under hbM9)
      have HM9 := Lib.hid hM9
      have Hq9E := Lib.hid hq9
      have HCP := Lib.hid (hcp.under hbM9)
      have HQG := Lib.hid (show g ≠ q9 by rw [hq9]; omega)
      have HGB := Lib.hid (show W.heap.size + 2 ≤ g by omega)
      clear hcp hM9 hq9 hbM9 hb4' hgb hgl
      go_upto_region 7 with fail
      rw [← HM9.out, ← Hq9E.out]
      rw [← HNN.out] at HCP HXq9 hpl
      rw [← HNN.out]
      rw [← HMM.out] at HCP HXq9
      rw [← HMM.out]
      go_wp2_with fail
      go_loopw [11] (fun x wr => ∃ k : Nat, k ≤ n ∧ x = .int .i64 k ∧ OpB W wr (.slice Am n cm) (.slice Ac m cc) ∧ wr.heap[q9]? = some (.cells #[.slice (some ⟨g, 0, none⟩) n dm, .slice Bc m dc] 31 (0, 0)) ∧ CpAt w5.heap.size wr (gM r p qu k) r.cs raw9 (.slice (some ⟨g, 0, none⟩) n dm) (.slice Bc m dc)) (fun x _ => n - (intOf x).toNat)
      case atStart => exact ⟨0, Nat.zero_le _, rfl, HOB.out, HXq9.out, by rw [gM_lo r p qu 0 (Nat.zero_le _)]; exact HCP.out⟩
      case round =>
        obtain ⟨k, hk, rfl, hob, hx9, hcp⟩ := hrel
        have HOB := Lib.hid hob
        have HX9 := Lib.hid hx9
        have HCP := Lib.hid hcp
        clear hob hx9 hcp
        have b0 := cell_of_row _ _ 0 _ _ (0, 0) HX9.out
        have hgl : (gM r p qu k).length = n := by rw [gM_len]; exact HNN.out.symm
        have HRM := Lib.hid (show wr.ownsRow w5.heap.size 48 3 (.slice (some ⟨g, 0, none⟩) n dm) n (cellsOf encM (gM r p qu k)) by have := HCP.out.rm; rwa [hgl] at this)
        by_cases hkn : k < n
        · have hkn2 : (k : Int) < (n : Int) := by omega
          have hkl : k < r.ms.length := by rw [← HNN.out]; exact hkn
          have c0 := (cell_mem HRM.out k (by omega)).1
          rw [gM_name r p qu k k hkl] at c0
          obtain ⟨x, hx⟩ : ∃ x, x = r.ms[k].name := ⟨_, rfl⟩
          rw [← hx] at c0
          have hw1 : IntKind.i64.wrap ((k : Int) + 1) = ((k + 1 : Nat) : Int) := IntWalk.i64_in _ (by omega)
          by_cases hkp : k = p
          · have e1 : (x.toList == nm.toList) = true := by rw [HEQ.out, decide_eq_true (hx.trans ((HKEY.out k hkl).2 hkp))]
            obtain ⟨qv, c2⟩ : ∃ qv, wr.cell? ⟨g, k * 3 + 2, none⟩ = some (.int .i64 qv) := ⟨_, (cell_mem HRM.out k (by omega)).2.2⟩
            have f2 := own_free HRM.out (k * 3 + 2)
            have HST2 := Lib.hid (gM_step HCP.out hgl k hkp hkl qu)
            have HXS := Lib.hid (show (wr.setCell ⟨g, k * 3 + 2, none⟩ (.int .i64 qu)).heap[q9]? = some (.cells #[.slice (some ⟨g, 0, none⟩) n dm, .slice Bc m dc] 31 (0, 0)) from (set_far q9 (Ne.symm HQG.out)).trans HX9.out)
            have HOS := Lib.hid (HOB.out.above (Nat.le_refl _) ((Below.refl _ wr).setCell (p := ⟨g, k * 3 + 2, none⟩) HGB.out (.int .i64 qu)))
            clear hx hkl hgl hkp
            go_wp2_with fail
            go_roundw
            case rel => exact ⟨k + 1, by omega, by go_num, HOS.out, HXS.out, HST2.out⟩
            case measure => simp [intOf]; omega
          · have e1 : (x.toList == nm.toList) = false := by rw [HEQ.out, decide_eq_false (fun h => hkp ((HKEY.out k hkl).1 (hx.symm.trans h)))]
            have HST2 := Lib.hid (show CpAt w5.heap.size wr (gM r p qu (k + 1)) r.cs raw9 (.slice (some ⟨g, 0, none⟩) n dm) (.slice Bc m dc) by rw [gM_same r p qu k hkp]; exact HCP.out)
            clear hx hkl hgl hkp
            go_wp2_with fail
            go_roundw
            case rel => exact ⟨k + 1, by omega, by go_num, HOB.out, HX9.out, HST2.out⟩
            case measure => simp [intOf]; omega
        · have hkn2 : ¬ (k : Int) < (n : Int) := by omega
          have HCE := Lib.hid (show CpAt w5.heap.size wr (r.ms.set p ⟨r.ms[p].name, r.ms[p].role, qu⟩) r.cs raw9 (.slice (some ⟨g, 0, none⟩) n dm) (.slice Bc m dc) by have := HCP.out; rwa [gM_hi r p qu k (by omega) (by rw [← HNN.out]; exact hpl)] at this)
          have HRS := Lib.hid (HOB.out.full HCE.out hlo1).1
          have HFU := Lib.hid (HOB.out.full HCE.out hlo1).2
          have r0' := cell_of_row _ _ 0 _ _ (0, 0) HOB.out.res
          have r1' := cell_of_row _ _ 1 _ _ (0, 0) HOB.out.res
          have g0' := Gn.frozen_row HOB.out.res 0
          have g1' := Gn.frozen_row HOB.out.res 1
          have o1' := cell_of_row _ _ 1 _ _ (0, 0) HX9.out
          clear hgl
          go_wp2_with fail
          refine bodyPost_ret (results_ct (P := Tryz.prog) rfl _ _ (W.heap.size + 1) 31 _ (0, 0) _ _ rfl rfl HRS.out Tryz.underlying31 rfl (by kernel_rfl)) rfl ?_
          rw [HR.out]
          exact HFU.out
    · have hqd : qu < 0 ∨ (¬ qu < 0 ∧ 65536 < qu) := by omega
      have HQN := Lib.hid (show grantM r nm qu = .error 1 by unfold grantM; rw [if_neg (by rw [← HHH.out]; decide), if_pos (by rw [decide_eq_false hqu])])
      clear hqu
      rcases hqd with q0 | ⟨q0, q1b⟩
      all_goals
        have HR := Lib.hid (show grantM r nm qu = .error 1 by exact HQN.out)
        have HRS := Lib.hid HOB.out.exit.1
        have HBE := Lib.hid HOB.out.exit.2
        have r0' := cell_of_row _ _ 0 _ _ (0, 0) HOB.out.res
        have r1' := cell_of_row _ _ 1 _ _ (0, 0) HOB.out.res
        have g0' := Gn.frozen_row HOB.out.res 0
        have g1' := Gn.frozen_row HOB.out.res 1
        go_wp2_with fail
        refine bodyPost_ret (results_ct (P := Tryz.prog) rfl _ _ (W.heap.size + 1) 31 _ (0, 0) _ _ rfl rfl HRS.out Tryz.underlying31 rfl (by kernel_rfl)) rfl ?_
        rw [HR.out]
        exact ⟨_, rfl, rl_zero _ _, HBE.out⟩
end Go.Proofs.YtnmhgjoofgmcgaaGreat.Rl

namespace Go.Proofs.YtnmhgjoofgmcgaaGreat.Rl
open Go.RowKit
open Fx (StrsAt)
set_option maxRecDepth 100000
set_option linter.unusedSimpArgs false
set_option linter.unusedVariables false
set_option maxHeartbeats 16000000 in
theorem dpart_any (r : Rol) (cl st : ByteArray) (hsz : Sized r) (P : Nat → Prop) (W : World) (v : Value) (h : RlAt P W r v) :
    Calls Tryz.prog 32 #[v, .string cl, .string st] W (OpOut W (partM r cl st)) := by
  have hn := hsz.ms
  have hm := hsz.cs
  have HST := Lib.hid hsz.studs
  have HCOP := Lib.hid (fun (w : World) (v : Value) (h : RlAt P w r v) => copy0_any r (by have := hsz.ms; omega) (by have := hsz.cs; omega) (fun c hc => by have := hsz.studs c hc; omega) P w v h)
  have HFI := Lib.hid (fun (nm : ByteArray) (w : World) (v : Value) (h : RlAt P w r v) => find2_any r nm hsz.names (by have := hsz.ms; omega) P w v h)
  have HOF := Lib.hid (fun (nm : ByteArray) (w : World) (v : Value) (h : RlAt P w r v) => of_any r nm P w v h hsz.classes (by have := hsz.cs; omega))
  have HEQ := Lib.hid bytes_eq
  have HSZ := Lib.hid hsz
  obtain ⟨Am, cm, Ac, cc, rfl, hms, hcs⟩ := h.form
  obtain ⟨raws, hrow, hall⟩ := hcs
  have hrl : raws.length = r.cs.length := hall.1
  obtain ⟨n, hnn⟩ : ∃ n, n = r.ms.length := ⟨_, rfl⟩
  obtain ⟨m, hmm⟩ : ∃ m, m = r.cs.length := ⟨_, rfl⟩
  rw [← hnn] at hms hn
  rw [← hmm] at hrow hm hrl
  rw [← hnn, ← hmm] at h ⊢
  obtain ⟨V, hV⟩ : ∃ V, V = (W.alloc (.cells #[.slice Am n cm, .slice Ac m cc] 31)).alloc (.cells #[.slice none 0 0, .slice none 0 0] 31) := ⟨_, rfl⟩
  have hb : Below W.heap.size W V := by rw [hV]; exact ((Below.refl _ W).alloc (Nat.le_refl _) _).alloc (by simp) _
  have HOB := Lib.hid (show OpB W V (.slice Am n cm) (.slice Ac m cc) from ⟨hb, by rw [hV]; exact (heap_alloc_old _ _ (by simp)).trans (heap_alloc_new W _), by
    rw [hV]; have := heap_alloc_new (W.alloc (.cells #[.slice Am n cm, .slice Ac m cc] 31)) (.cells #[.slice none 0 0, .slice none 0 0] 31); simpa using this⟩)
  have HRL := Lib.hid (h.under hb)
  have HRO := Lib.hid (fun (w : World) (b : Below W.heap.size W w) => RowAt.under hrow b)
  have HAL := Lib.hid (fun (w : World) (b : Below W.heap.size W w) (i : Nat) (h1 : i < raws.length) (h2 : i < r.cs.length) => (⟨(hall.2 i h1 h2).1, (hall.2 i h1 h2).2.1, (hall.2 i h1 h2).2.2.under b⟩ : raws[i].name = r.cs[i].name ∧ raws[i].teacher = r.cs[i].teacher ∧ StrsAt P w r.cs[i].studs raws[i].studs))
  have HV := Lib.hid hV
  have HNN := Lib.hid hnn
  have HMM := Lib.hid hmm
  have HRLN := Lib.hid hrl
  clear hsz h hms hrow hall hrl hb hV hnn hmm
  go_enter Tryz.func32, Tryz.ntmps32
  go_upto_region 1 with fail
  rw [← HV.out]
  obtain ⟨i0, hi0, hz0, hz1, hz2⟩ := info_parts Oct.strinfo
  have x0 := cell_of_row _ _ 0 _ _ (0, 0) HOB.out.rbox
  have x1 := cell_of_row _ _ 1 _ _ (0, 0) HOB.out.rbox
  go_wp2_with fail
  refine (HOF.out cl V _ HRL.out).mono ?_
  rintro e w1 ⟨rfl, hb1⟩
  have HOB := Lib.hid (HOB.out.under hb1)
  have HRL := Lib.hid (HRL.out.under hb1)
  clear hb1
  clear x0 x1
  obtain ⟨hh, hhh⟩ : ∃ x, x = hasN r.classes cl := ⟨_, rfl⟩
  have HHH := Lib.hid hhh
  clear hhh
  go_upto_region 2 with fail
  have x0 := cell_of_row _ _ 0 _ _ (0, 0) HOB.out.rbox
  have x1 := cell_of_row _ _ 1 _ _ (0, 0) HOB.out.rbox
  cases hh with
  | false =>
    have HOI := Lib.hid (show ofI r.classes cl = -1 by unfold ofI; rw [← HHH.out]; rfl)
    rw [HOI.out]
    have HR := Lib.hid (show partM r cl st = .error 10 by unfold partM; rw [if_pos HHH.out.symm])
    have HRS := Lib.hid HOB.out.exit.1
    have HBE := Lib.hid HOB.out.exit.2
    have r0' := cell_of_row _ _ 0 _ _ (0, 0) HOB.out.res
    have r1' := cell_of_row _ _ 1 _ _ (0, 0) HOB.out.res
    have g0' := Gn.frozen_row HOB.out.res 0
    have g1' := Gn.frozen_row HOB.out.res 1
    go_wp2_with fail
    refine bodyPost_ret (results_ct (P := Tryz.prog) rfl _ _ (W.heap.size + 1) 31 _ (0, 0) _ _ rfl rfl HRS.out Tryz.underlying31 rfl (by kernel_rfl)) rfl ?_
    rw [HR.out]
    exact ⟨_, rfl, rl_zero _ _, HBE.out⟩
  | true =>
    obtain ⟨p, hp⟩ : ∃ p, p = plc r.classes cl := ⟨_, rfl⟩
    have HOI := Lib.hid (show ofI r.classes cl = (p : Int) by unfold ofI; rw [← HHH.out, hp]; rfl)
    rw [HOI.out]
    have hpc : p < r.cs.length := by rw [hp]; have := hasN_lt HSZ.out.classes HHH.out.symm; simpa [Rol.classes] using this
    have hpm : p < m := by rw [HMM.out]; exact hpc
    have hpw : p < raws.length := by rw [HRLN.out]; exact hpm
    have HPT := Lib.hid (show partM r cl st = if hasN r.cs[p].studs st = false then .error 10 else .ok ⟨r.ms, r.cs.set p ⟨r.cs[p].name, r.cs[p].teacher, outN r.cs[p].studs st⟩⟩ by
      unfold partM
      rw [if_neg (by rw [← HHH.out]; decide), ← hp, getD_cls hpc])
    clear hp
    obtain ⟨A5, c5, b5, h5, _, _, h5c, h5d⟩ := HRO.out w1 HOB.out.bel
    rw [HRLN.out] at h5 h5c
    injection h5 with h5 h50 h5k
    subst h5
    subst h5k
    obtain ⟨rfl, hb5, _⟩ := h5c (by omega)
    have k2 := h5d p hpw 2 _ rfl
    have HSN := Lib.hid (HAL.out w1 HOB.out.bel p hpw hpc).2.2
    have HINA := Lib.hid (in_any r.cs[p].studs st P w1 _ HSN.out (by have := HST.out _ (List.getElem_mem hpc); omega))
    obtain ⟨A6, c6, hv6⟩ := HSN.out.form
    obtain ⟨rs, hrs⟩ : ∃ v, v = raws[p].studs := ⟨_, rfl⟩
    rw [← hrs] at k2 HINA hv6
    subst hv6
    obtain ⟨s6, hs6⟩ : ∃ n, n = r.cs[p].studs.length := ⟨_, rfl⟩
    rw [← hs6] at k2 HINA
    obtain ⟨hi, hhi⟩ : ∃ b, b = hasN r.cs[p].studs st := ⟨_, rfl⟩
    rw [← hhi] at HINA HPT
    clear hrs hs6 hhi h5d h5c hb5 h50
    go_wp2_with fail
    refine HINA.out.mono ?_
    rintro e w2 ⟨rfl, hb2⟩
    have HOB := Lib.hid (HOB.out.under hb2)
    have HRL := Lib.hid (HRL.out.under hb2)
    clear hb2
    clear x0 x1 k2
    have x0 := cell_of_row _ _ 0 _ _ (0, 0) HOB.out.rbox
    have x1 := cell_of_row _ _ 1 _ _ (0, 0) HOB.out.rbox
    cases hi with
    | false =>
      have HR := Lib.hid (show partM r cl st = .error 10 by rw [HPT.out, if_pos rfl])
      have HRS := Lib.hid HOB.out.exit.1
      have HBE := Lib.hid HOB.out.exit.2
      have r0' := cell_of_row _ _ 0 _ _ (0, 0) HOB.out.res
      have r1' := cell_of_row _ _ 1 _ _ (0, 0) HOB.out.res
      have g0' := Gn.frozen_row HOB.out.res 0
      have g1' := Gn.frozen_row HOB.out.res 1
      go_wp2_with fail
      refine bodyPost_ret (results_ct (P := Tryz.prog) rfl _ _ (W.heap.size + 1) 31 _ (0, 0) _ _ rfl rfl HRS.out Tryz.underlying31 rfl (by kernel_rfl)) rfl ?_
      rw [HR.out]
      exact ⟨_, rfl, rl_zero _ _, HBE.out⟩
    | true =>
      rw [if_neg (by decide)] at HPT
      go_wp2_with fail
      refine (HCOP.out w2 _ HRL.out).mono ?_
      rintro e w4 ⟨vm, vc, raw9, rfl, hcp, hb4⟩
      have hlo1 := HOB.out.lt
      have hb4' := hb4
      have HOB := Lib.hid (HOB.out.under hb4)
      have HRL := Lib.hid (HRL.out.under hb4)
      clear hb4
      obtain ⟨w5, hw5⟩ : ∃ w, w = w2 := ⟨_, rfl⟩
      rw [← hw5] at hcp hlo1 hb4'
      clear hw5
      obtain ⟨Bm, dm, rfl⟩ := Gn.slice_of hcp.rm
      have hl9 : raw9.length = m := by rw [hcp.len, HMM.out]
      clear x0 x1
      obtain ⟨g, dc, rfl, hdc, hgb, hgl⟩ := own_form hcp.rc (by omega)
      rw [← HMM.out] at hdc
      obtain ⟨M9, hM9⟩ : ∃ M, M = w4.alloc (.cells #[.slice Bm r.ms.length dm, .slice (some ⟨g, 0, none⟩) r.cs.length dc] 31) := ⟨_, rfl⟩
      obtain ⟨q9, hq9⟩ : ∃ q, q = w4.heap.size := ⟨_, rfl⟩
      have hbM9 : Below w4.heap.size w4 M9 := by rw [hM9]; exact (Below.refl _ _).alloc (Nat.le_refl _) _
      have HXq9 := Lib.hid (show M9.heap[q9]? = some (.cells #[.slice Bm r.ms.length dm, .slice (some ⟨g, 0, none⟩) r.cs.length dc] 31 (0, 0)) by rw [hM9, hq9]; exact heap_alloc_new _ _)
      have HLOq9 := Lib.hid (show W.heap.size + 2 ≤ q9 by rw [hq9]; exact HOB.out.lt)
      have HOB := Lib.hid (HOB.out.under hbM9)
      have HRL := Lib.hid (HRL.out.under hbM9)
      have HM9 := Lib.hid hM9
      have Hq9E := Lib.hid hq9
      have HCP := Lib.hid (hcp.under hbM9)
      have HLT := Lib.hid (show LtQ q9 raw9 (.slice Bm r.ms.length dm) (.slice (some ⟨g, 0, none⟩) r.cs.length dc) by rw [hq9]; exact hcp.ltq)
      have HQ9S := Lib.hid (show q9 < M9.heap.size by rw [hM9, hq9]; simp)
      have HBS := Lib.hid (show w5.heap.size ≤ q9 by rw [hq9]; exact hb4'.size)
      have HQG := Lib.hid (show q9 ≠ g by rw [hq9]; omega)
      have HGB := Lib.hid (show W.heap.size + 2 ≤ g by omega)
      clear hcp hM9 hq9 hbM9 hb4' hgb hgl
      go_upto_region 5 with fail
      rw [← HM9.out, ← Hq9E.out]
      rw [← HNN.out] at HCP HLT HXq9
      rw [← HNN.out]
      rw [← HMM.out] at HCP HLT HXq9
      rw [← HMM.out]
      have HRC := Lib.hid (show M9.ownsRow w5.heap.size 57 3 (.slice (some ⟨g, 0, none⟩) m dc) m (cellsOf encC raw9) by have := HCP.out.rc; rwa [← HMM.out] at this)
      have hpr : p < raw9.length := by omega
      obtain ⟨ss, hss⟩ : ∃ ss, ss = r.cs[p].studs := ⟨_, rfl⟩
      have HSS := Lib.hid hss
      have hso := (HCP.out.own p hpr hpc).2.2
      have hlq := HLT.out.2.2 p hpr
      have s2 := (cell_cls HRC.out p hpr).2.2
      rw [← hss] at hso
      obtain ⟨rv, hrv⟩ : ∃ rv, rv = raw9[p].studs := ⟨_, rfl⟩
      rw [← hrv] at hso hlq s2
      obtain ⟨A7, c7, hrv2⟩ := Gn.slice_of hso
      subst hrv2
      obtain ⟨sl, hsl⟩ : ∃ n, n = ss.length := ⟨_, rfl⟩
      rw [← hsl] at hso hlq s2
      have hsl4 : sl ≤ 4000 := by rw [hsl, hss]; exact HST.out _ (List.getElem_mem hpc)
      have HSO := Lib.hid hso
      have HLQ := Lib.hid hlq
      have HSL := Lib.hid hsl
      clear hrv hso hlq hsl hss
      have b1 := cell_of_row _ _ 1 _ _ (0, 0) HXq9.out
      go_wp2_with fail
      go_loopw [10, 12] (fun l x wr => ∃ (k ln : Nat) (A : Option Addr) (cap : Nat), k ≤ sl ∧ ln ≤ k ∧ l = .slice A ln cap ∧ x = .int .i64 k ∧ Below (q9 + 1) M9 wr ∧ M9.heap.size ≤ wr.heap.size ∧ wr.ownsRow M9.heap.size 9 1 (.slice A ln cap) ln ((notS st (ss.take k)).map Value.string)) (fun _ x _ => sl - (intOf x).toNat)
      case atStart => exact ⟨0, 0, none, 0, Nat.zero_le _, Nat.le_refl _, rfl, rfl, Below.refl _ _, Nat.le_refl _, World.ownsRow_nil _ _ _ _⟩
      case round =>
        obtain ⟨k, ln, A1, c1, hk, hln, rfl, rfl, hbw, hsw, how⟩ := hrel
        have HBW := Lib.hid hbw
        have HS_wr := Lib.hid hsw
        have HOW := Lib.hid how
        clear hbw hsw how
        by_cases hkn : k < sl
        · have hkn2 : (k : Int) < (sl : Int) := by omega
          have hkl : k < ss.length := by rw [← HSL.out]; exact hkn
          obtain ⟨g7, c7', he, _, _, _⟩ := own_form HSO.out (by omega)
          injection he with he1 he2 he3
          subst he1
          subst he3
          have hgq : g7 < q9 := HLQ.out g7 rfl
          obtain ⟨x, hx⟩ : ∃ x, x = ss[k] := ⟨_, rfl⟩
          have m0 := cell_str HSO.out k hkl
          rw [← hx] at m0
          have k0 := (HBW.out.cell (p := ⟨g7, k, none⟩) (by show g7 < q9 + 1; omega)).trans m0
          have hsn := notS_step st ss k hkl
          rw [← hx] at hsn
          have hw1 : IntKind.i64.wrap ((k : Int) + 1) = ((k + 1 : Nat) : Int) := IntWalk.i64_in _ (by omega)
          by_cases hq : x = st
          · have e1 : (x.toList == st.toList) = true := by rw [HEQ.out, decide_eq_true hq]
            have e2 : (x.toList != st.toList) = false := by rw [bne, e1]; rfl
            have HNX := Lib.hid (show notS st (ss.take (k + 1)) = notS st (ss.take k) by rw [hsn, if_pos hq, List.append_nil])
            clear hx hsn hq m0 he2 hgq
            go_wp2_with fail
            go_roundw
            case rel => exact ⟨k + 1, ln, A1, c1, by omega, by omega, rfl, by go_num, HBW.out, HS_wr.out, by rw [HNX.out]; exact HOW.out⟩
            case measure => simp [intOf]; omega
          · have e1 : (x.toList == st.toList) = false := by rw [HEQ.out, decide_eq_false hq]
            have e2 : (x.toList != st.toList) = true := by rw [bne, e1]; rfl
            have HNX := Lib.hid (show notS st (ss.take (k + 1)) = notS st (ss.take k) ++ [x] by rw [hsn, if_neg hq])
            clear hx hsn hq m0 he2 hgq
            go_wp2_with ((at_builtin; refine wpList_append_own _ rfl _ _ 51 rfl M9.heap.size 9 i0 (.string ByteArray.empty) 1 16 Tryz.underlying51 hi0 hz0 hz1 hz2 rfl (by decide) (.slice A1 ln c1) ln ((notS st (ss.take k)).map Value.string) rfl (HOW.out.alloc _) ⟨wr.heap.size, 0, none⟩ 1 1 [.string x] rfl rfl (Gn.row_new wr [.string x] 9 wr.heap.size rfl) (by simp [Value.oneCell']) (by unfold maxLen; omega) (by omega) (by simp; have := HS_wr.out; omega) ?_))
            intro va wa ho9 hg9 _
            have HBA := Lib.hid (below_grown2 (q := q9) (HBW.out.alloc (by have := HS_wr.out; have := HQ9S.out; omega) (.cells #[.string x] 9)) (by simp; have := HS_wr.out; have := HQ9S.out; omega) hg9 (fun z hz => by have := Gn.own_block HOW.out z hz; have := HQ9S.out; omega))
            have HS_wa := Lib.hid (show M9.heap.size ≤ wa.heap.size by have := hg9.size; have := HS_wr.out; simp at *; omega)
            have HOA := Lib.hid (show wa.ownsRow M9.heap.size 9 1 va (ln + 1) ((notS st (ss.take (k + 1))).map Value.string) by rw [HNX.out, List.map_append]; exact ho9)
            obtain ⟨A_wa, c_wa, rfl⟩ := Gn.slice_of ho9
            clear ho9 hg9
            go_wp2_with fail
            go_roundw
            case rel => exact ⟨k + 1, ln + 1, A_wa, c_wa, by omega, by omega, rfl, by go_num, HBA.out, HS_wa.out, HOA.out⟩
            case measure => simp [intOf]; omega
        · have hkn2 : ¬ (k : Int) < (sl : Int) := by omega
          have hke : k = sl := by omega
          have HFE := Lib.hid (show notS st (ss.take k) = outN ss st by rw [hke, HSL.out, List.take_length]; exact filt_out (by rw [HSS.out]; exact HSZ.out.rising _ (List.getElem_mem hpc)) st)
          rw [HFE.out] at HOW
          have HLN := Lib.hid (show (outN ss st).length = ln by have h1 := HOW.out.1; rw [List.length_map] at h1; omega)
          have HR := Lib.hid (show partM r cl st = .ok ⟨r.ms, r.cs.set p ⟨r.cs[p].name, r.cs[p].teacher, outN ss st⟩⟩ by rw [HPT.out, HSS.out])
          clear hke b1 s2
          have HCW := Lib.hid (HCP.out.mid HLT.out (HBW.out.mono (Nat.le_succ q9)))
          have HRW := Lib.hid (show wr.ownsRow w5.heap.size 57 3 (.slice (some ⟨g, 0, none⟩) m dc) m (cellsOf encC raw9) by have := HCW.out.rc; rwa [← HMM.out] at this)
          have hx9 := (HBW.out.block q9 (by omega)).trans HXq9.out
          have hpr : p < raw9.length := by omega
          have s2 : ∃ sv, wr.cell? ⟨g, p * 3 + 2, none⟩ = some sv := ⟨_, (cell_cls HRW.out p hpr).2.2⟩
          obtain ⟨sv2, s2⟩ := s2
          have f2 := own_free HRW.out (p * 3 + 2)
          have b1 := cell_of_row _ _ 1 _ _ (0, 0) hx9
          obtain ⟨W8, hW8⟩ : ∃ W8, W8 = wr.setCell ⟨g, p * 3 + 2, none⟩ (.slice A1 ln c1) := ⟨_, rfl⟩
          have HOB := Lib.hid (show OpB W W8 (.slice Am n cm) (.slice (some ⟨b5, 0, none⟩) m cc) by rw [hW8]; exact (HOB.out.above HLOq9.out (HBW.out.mono (Nat.le_succ q9))).above (Nat.le_refl _) ((Below.refl _ wr).setCell (p := ⟨g, p * 3 + 2, none⟩) HGB.out _))
          have HX8 := Lib.hid (show W8.heap[q9]? = some (.cells #[.slice Bm n dm, .slice (some ⟨g, 0, none⟩) m dc] 31 (0, 0)) by rw [hW8]; exact (set_far q9 HQG.out).trans hx9)
          have HW8 := Lib.hid hW8
          have HCQ := Lib.hid (show CpAt w5.heap.size W8 r.ms (r.cs.set p ⟨r.cs[p].name, r.cs[p].teacher, outN ss st⟩) (raw9.set p ⟨raw9[p].name, raw9[p].teacher, (.slice A1 ln c1)⟩) (.slice Bm n dm) (.slice (some ⟨g, 0, none⟩) m dc) from by
            rw [hW8]
            exact HCW.out.setC HMM.out.symm p hpc (by
              have hl : (outN ss st).length = ln := HLN.out
              rw [hl]
              exact own_low HOW.out (by have := HQ9S.out; have := HBS.out; omega)) hpr)
          clear hW8 hx9
          go_upto_region 13 with fail
          rw [← HW8.out]
          clear b1 s2 f2
          have HRS := Lib.hid (HOB.out.full HCQ.out hlo1).1
          have HFU := Lib.hid (HOB.out.full HCQ.out hlo1).2
          have r0' := cell_of_row _ _ 0 _ _ (0, 0) HOB.out.res
          have r1' := cell_of_row _ _ 1 _ _ (0, 0) HOB.out.res
          have g0' := Gn.frozen_row HOB.out.res 0
          have g1' := Gn.frozen_row HOB.out.res 1
          have o0' := cell_of_row _ _ 0 _ _ (0, 0) HX8.out
          have o1' := cell_of_row _ _ 1 _ _ (0, 0) HX8.out
          go_wp2_with fail
          refine bodyPost_ret (results_ct (P := Tryz.prog) rfl _ _ (W.heap.size + 1) 31 _ (0, 0) _ _ rfl rfl HRS.out Tryz.underlying31 rfl (by kernel_rfl)) rfl ?_
          rw [HR.out]
          exact HFU.out
end Go.Proofs.YtnmhgjoofgmcgaaGreat.Rl
