/-
  Layer 18: the document's Enrol.
-/
import Derived.Test.YtnmhgjoofgmcgaaGreatRdE
import Derived.Deep.RegionHeld3
import Derived.Deep.DeepCutAuto
namespace Go.Proofs.YtnmhgjoofgmcgaaGreat.Rl
open Go.RowKit
open Fx (StrsAt)
set_option maxRecDepth 100000
set_option linter.unusedSimpArgs false
set_option linter.unusedVariables false
/-- A row that one is put into, as it stands in round k. -/
def insK {α : Type} (l : List α) (p : Nat) (x : α) (k : Nat) : List α := if p < k then l.take p ++ [x] ++ (l.take k).drop p else l.take k
section
variable {α : Type} (l : List α) (p : Nat) (x : α)
theorem insK_lo (k : Nat) (h : k ≤ p) : insK l p x k = l.take k := by unfold insK; rw [if_neg (by omega)]
theorem insK_go (k : Nat) (hk : k < l.length) (h : k ≠ p) : insK l p x (k + 1) = insK l p x k ++ [l[k]] := by
  unfold insK
  by_cases hp : p < k
  · rw [if_pos hp, if_pos (by omega), List.take_succ_eq_append_getElem hk, List.drop_append_of_le_length (by rw [List.length_take]; omega)]
    simp
  · rw [if_neg hp, if_neg (by omega), List.take_succ_eq_append_getElem hk]
theorem insK_at (hp : p < l.length) : insK l p x (p + 1) = insK l p x p ++ [x] ++ [l[p]] := by
  unfold insK
  rw [if_pos (by omega), if_neg (by omega), List.take_succ_eq_append_getElem hp, List.drop_append_of_le_length (by rw [List.length_take]; omega), List.drop_eq_nil_of_le (by rw [List.length_take]; omega)]
  rfl
theorem insK_end (hp : p < l.length) : insK l p x l.length = l.take p ++ [x] ++ l.drop p := by
  unfold insK
  rw [if_pos hp, List.take_length]
theorem insK_last (hp : p = l.length) : insK l p x l.length ++ [x] = l.take p ++ [x] ++ l.drop p := by
  unfold insK
  rw [if_neg (by omega), hp, List.drop_length, List.append_nil]
theorem insK_len (k : Nat) (hk : k ≤ l.length) : (insK l p x k).length ≤ k + 1 := by
  unfold insK
  split
  · simp only [List.length_append, List.length_take, List.length_drop, List.length_singleton]; omega
  · rw [List.length_take]; omega
end
set_option maxHeartbeats 16000000 in
theorem denrol_any (r : Rol) (nm : ByteArray) (role : Int) (hsz : Sized r) (hnm : nm.size ≤ 9223372036854775807) (P : Nat → Prop) (W : World) (v : Value) (h : RlAt P W r v) :
    Calls Tryz.prog 26 #[v, .string nm, .int .i64 role] W (OpOut W (enrolM r nm role)) := by
  have hn := hsz.ms
  have hm := hsz.cs
  have HST := Lib.hid hsz.studs
  have HCOP := Lib.hid (fun (w : World) (v : Value) (h : RlAt P w r v) => copy0_any r (by have := hsz.ms; omega) (by have := hsz.cs; omega) (fun c hc => by have := hsz.studs c hc; omega) P w v h)
  have HFI := Lib.hid (fun (nm : ByteArray) (w : World) (v : Value) (h : RlAt P w r v) => find2_any r nm hsz.names (by have := hsz.ms; omega) P w v h)
  have HOF := Lib.hid (fun (nm : ByteArray) (w : World) (v : Value) (h : RlAt P w r v) => of_any r nm P w v h hsz.classes (by have := hsz.cs; omega))
  have HEQ := Lib.hid bytes_eq
  have HSZ := Lib.hid hsz
  obtain ⟨Am, cm, Ac, cc, rfl, hms, hcs⟩ := h.form
  obtain ⟨raws, hrow, hall⟩ := hcs
  have hrl : raws.length = r.cs.length := hall.1
  obtain ⟨n, hnn⟩ : ∃ n, n = r.ms.length := ⟨_, rfl⟩
  obtain ⟨m, hmm⟩ : ∃ m, m = r.cs.length := ⟨_, rfl⟩
  rw [← hnn] at hms hn
  rw [← hmm] at hrow hm hrl
  rw [← hnn, ← hmm] at h ⊢
  obtain ⟨V, hV⟩ : ∃ V, V = (W.alloc (.cells #[.slice Am n cm, .slice Ac m cc] 31)).alloc (.cells #[.slice none 0 0, .slice none 0 0] 31) := ⟨_, rfl⟩
  have hb : Below W.heap.size W V := by rw [hV]; exact ((Below.refl _ W).alloc (Nat.le_refl _) _).alloc (by simp) _
  have HOB := Lib.hid (show OpB W V (.slice Am n cm) (.slice Ac m cc) from ⟨hb, by rw [hV]; exact (heap_alloc_old _ _ (by simp)).trans (heap_alloc_new W _), by
    rw [hV]; have := heap_alloc_new (W.alloc (.cells #[.slice Am n cm, .slice Ac m cc] 31)) (.cells #[.slice none 0 0, .slice none 0 0] 31); simpa using this⟩)
  have HRL := Lib.hid (h.under hb)
  have HRO := Lib.hid (fun (w : World) (b : Below W.heap.size W w) => RowAt.under hrow b)
  have HAL := Lib.hid (fun (w : World) (b : Below W.heap.size W w) (i : Nat) (h1 : i < raws.length) (h2 : i < r.cs.length) => (⟨(hall.2 i h1 h2).1, (hall.2 i h1 h2).2.1, (hall.2 i h1 h2).2.2.under b⟩ : raws[i].name = r.cs[i].name ∧ raws[i].teacher = r.cs[i].teacher ∧ StrsAt P w r.cs[i].studs raws[i].studs))
  have HV := Lib.hid hV
  have HNN := Lib.hid hnn
  have HMM := Lib.hid hmm
  have HRLN := Lib.hid hrl
  clear hsz h hms hrow hall hrl hb hV hnn hmm
  go_enter Tryz.func26, Tryz.ntmps26
  go_upto_region 1 with fail
  rw [← HV.out]
  obtain ⟨i0, hi0, hz0, hz1, hz2⟩ := info_parts DM_info
  have HGD := Lib.hid (fun w => Lx.rgood_any nm w hnm)
  obtain ⟨gd, hgd⟩ : ∃ x, x = Lx.goodB (Lx.bs nm) := ⟨_, rfl⟩
  rw [← hgd] at HGD
  have HGB := Lib.hid hgd
  clear hgd hnm
  have x0 := cell_of_row _ _ 0 _ _ (0, 0) HOB.out.rbox
  have x1 := cell_of_row _ _ 1 _ _ (0, 0) HOB.out.rbox
  go_wp2_with fail
  refine (HGD.out V).mono ?_
  rintro e w1 ⟨rfl, rfl⟩
  cases gd with
  | false =>
    have HR := Lib.hid (show enrolM r nm role = .error 8 by unfold enrolM; rw [if_pos HGB.out.symm])
    have HRS := Lib.hid HOB.out.exit.1
    have HBE := Lib.hid HOB.out.exit.2
    have r0' := cell_of_row _ _ 0 _ _ (0, 0) HOB.out.res
    have r1' := cell_of_row _ _ 1 _ _ (0, 0) HOB.out.res
    have g0' := Gn.frozen_row HOB.out.res 0
    have g1' := Gn.frozen_row HOB.out.res 1
    go_wp2_with fail
    refine bodyPost_ret (results_ct (P := Tryz.prog) rfl _ _ (W.heap.size + 1) 31 _ (0, 0) _ _ rfl rfl HRS.out Tryz.underlying31 rfl (by kernel_rfl)) rfl ?_
    rw [HR.out]
    exact ⟨_, rfl, rl_zero _ _, HBE.out⟩
  | true =>
    by_cases hro : role = 1 ∨ role = 2
    · have HRO2 := Lib.hid (show decide (role = 1 ∨ role = 2) = true from decide_eq_true hro)
      go_upto_region 3 with fail
      go_cut [23] from 18 to 22 (fun s wx => s = .bool false ∧ V = wx)
      case first =>
        rcases hro with rfl | rfl
        all_goals
          go_wp2_with fail
          go_meet
          case rel => exact ⟨rfl, rfl⟩
      case rest =>
        obtain ⟨rfl, rfl⟩ := hcut
        clear hro
        go_wp2_with fail
        refine (HFI.out nm _ _ HRL.out).mono ?_
        rintro e w2 ⟨rfl, hb2⟩
        have HOB := Lib.hid (HOB.out.under hb2)
        have HRL := Lib.hid (HRL.out.under hb2)
        clear hb2
        obtain ⟨fn, hfn⟩ : ∃ x, x = (findM r nm).name := ⟨_, rfl⟩
        obtain ⟨fr, hfr⟩ : ∃ x, x = (findM r nm).role := ⟨_, rfl⟩
        obtain ⟨fq, hfq⟩ : ∃ x, x = (findM r nm).quota := ⟨_, rfl⟩
        obtain ⟨hh, hhh⟩ : ∃ x, x = hasN r.names nm := ⟨_, rfl⟩
        rw [← hfn, ← hfr, ← hfq, ← hhh]
        have HHH := Lib.hid hhh
        clear hfn hfr hfq hhh x0 x1
        obtain ⟨M1, hM1⟩ : ∃ M, M = w2.alloc (.cells #[.string fn, .int .i64 fr, .int .i64 fq] 48) := ⟨_, rfl⟩
        obtain ⟨q1, hq1⟩ : ∃ q, q = w2.heap.size := ⟨_, rfl⟩
        have hbM1 : Below w2.heap.size w2 M1 := by rw [hM1]; exact (Below.refl _ _).alloc (Nat.le_refl _) _
        have HXq1 := Lib.hid (show M1.heap[q1]? = some (.cells #[.string fn, .int .i64 fr, .int .i64 fq] 48 (0, 0)) by rw [hM1, hq1]; exact heap_alloc_new _ _)
        have HLOq1 := Lib.hid (show W.heap.size + 2 ≤ q1 by rw [hq1]; exact HOB.out.lt)
        have HOB := Lib.hid (HOB.out.under hbM1)
        have HRL := Lib.hid (HRL.out.under hbM1)
        have HM1 := Lib.hid hM1
        have Hq1E := Lib.hid hq1
        clear hM1 hq1 hbM1
        go_upto_region 6 with fail
        rw [← HM1.out, ← Hq1E.out]
        have x0 := cell_of_row _ _ 0 _ _ (0, 0) HOB.out.rbox
        have x1 := cell_of_row _ _ 1 _ _ (0, 0) HOB.out.rbox
        cases hh with
        | true =>
          have HR := Lib.hid (show enrolM r nm role = .error 9 by unfold enrolM; rw [if_neg (by rw [← HGB.out]; decide), if_neg (by rw [HRO2.out]; decide), if_pos HHH.out.symm])
          have HRS := Lib.hid HOB.out.exit.1
          have HBE := Lib.hid HOB.out.exit.2
          have r0' := cell_of_row _ _ 0 _ _ (0, 0) HOB.out.res
          have r1' := cell_of_row _ _ 1 _ _ (0, 0) HOB.out.res
          have g0' := Gn.frozen_row HOB.out.res 0
          have g1' := Gn.frozen_row HOB.out.res 1
          go_wp2_with fail
          refine bodyPost_ret (results_ct (P := Tryz.prog) rfl _ _ (W.heap.size + 1) 31 _ (0, 0) _ _ rfl rfl HRS.out Tryz.underlying31 rfl (by kernel_rfl)) rfl ?_
          rw [HR.out]
          exact ⟨_, rfl, rl_zero _ _, HBE.out⟩
        | false =>
          have HTT := Lib.hid (show enrolM r nm role = if 256 ≤ r.ms.length then .error 12 else .ok ⟨r.ms.take (plc r.names nm) ++ [⟨nm, role, 4096⟩] ++ r.ms.drop (plc r.names nm), r.cs⟩ by unfold enrolM; rw [if_neg (by rw [← HGB.out]; decide), if_neg (by rw [HRO2.out]; decide), if_neg (by rw [← HHH.out]; decide)])
          by_cases hm256 : 256 ≤ n
          · have hm3 : (256 : Int) ≤ (n : Int) := by omega
            have HR := Lib.hid (show enrolM r nm role = .error 12 by rw [HTT.out, if_pos (by rw [← HNN.out]; exact hm256)])
            have HRS := Lib.hid HOB.out.exit.1
            have HBE := Lib.hid HOB.out.exit.2
            have r0' := cell_of_row _ _ 0 _ _ (0, 0) HOB.out.res
            have r1' := cell_of_row _ _ 1 _ _ (0, 0) HOB.out.res
            have g0' := Gn.frozen_row HOB.out.res 0
            have g1' := Gn.frozen_row HOB.out.res 1
            go_wp2_with fail
            refine bodyPost_ret (results_ct (P := Tryz.prog) rfl _ _ (W.heap.size + 1) 31 _ (0, 0) _ _ rfl rfl HRS.out Tryz.underlying31 rfl (by kernel_rfl)) rfl ?_
            rw [HR.out]
            exact ⟨_, rfl, rl_zero _ _, HBE.out⟩
          · have hm3 : ¬ (256 : Int) ≤ (n : Int) := by omega
            obtain ⟨p, hp⟩ : ∃ p, p = plc r.names nm := ⟨_, rfl⟩
            have hpl : p ≤ n := by rw [hp, HNN.out]; have := plc_le nm r.names; simpa [Rol.names] using this
            have HR := Lib.hid (show enrolM r nm role = .ok ⟨r.ms.take p ++ [⟨nm, role, 4096⟩] ++ r.ms.drop p, r.cs⟩ by rw [HTT.out, if_neg (by rw [← HNN.out]; exact hm256), hp])
            have HLS := Lib.hid (fun (k : Nat) (h : k < r.ms.length) (h2 : k < p) => show cmpN r.ms[k].name nm < 0 from by
              have := plc_lo HSZ.out.names nm k (by simpa [Rol.names] using h) (by rw [← hp]; exact h2)
              simpa [Rol.names] using this)
            have HGE := Lib.hid (fun (k : Nat) (h : k < r.ms.length) (h2 : p ≤ k) => show ¬ cmpN r.ms[k].name nm < 0 from by
              have := plc_hi HSZ.out.names nm k (by simpa [Rol.names] using h) (by rw [← hp]; exact h2)
              simpa [Rol.names] using this)
            have HNE := Lib.hid (fun (k : Nat) (h : k < r.ms.length) => show r.ms[k].name ≠ nm from fun e => by
              have : hasN r.names nm = true := hasN_iff.2 (List.mem_map.2 ⟨r.ms[k], List.getElem_mem h, e⟩)
              rw [← HHH.out] at this
              cases this)
            clear hp
            go_wp2_with fail
            refine (HCOP.out M1 _ HRL.out).mono ?_
            rintro e w4 ⟨vm, vc, raw9, rfl, hcp, hb4⟩
            have hlo1 := HOB.out.lt
            have hb4' := hb4
            have HOB := Lib.hid (HOB.out.under hb4)
            have HRL := Lib.hid (HRL.out.under hb4)
            clear hb4
            obtain ⟨w5, hw5⟩ : ∃ w, w = M1 := ⟨_, rfl⟩
            rw [← hw5] at hcp hlo1 hb4'
            clear hw5
            obtain ⟨Bc, dc, rfl⟩ := Gn.slice_of hcp.rc
            obtain ⟨Bm, dm, rfl⟩ := Gn.slice_of hcp.rm
            clear x0 x1 hm3
            obtain ⟨M9, hM9⟩ : ∃ M, M = w4.alloc (.cells #[.slice Bm r.ms.length dm, .slice Bc r.cs.length dc] 31) := ⟨_, rfl⟩
            obtain ⟨q9, hq9⟩ : ∃ q, q = w4.heap.size := ⟨_, rfl⟩
            have hbM9 : Below w4.heap.size w4 M9 := by rw [hM9]; exact (Below.refl _ _).alloc (Nat.le_refl _) _
            have HXq9 := Lib.hid (show M9.heap[q9]? = some (.cells #[.slice Bm r.ms.length dm, .slice Bc r.cs.length dc] 31 (0, 0)) by rw [hM9, hq9]; exact heap_alloc_new _ _)
            have HLOq9 := Lib.hid (show W.heap.size + 2 ≤ q9 by rw [hq9]; exact HOB.out.lt)
            have HOB := Lib.hid (HOB.out.under hbM9)
            have HRL := Lib.hid (HRL.out.under hbM9)
            have HM9 := Lib.hid hM9
            have Hq9E := Lib.hid hq9
            have HCP := Lib.hid (hcp.under hbM9)
            have HLT := Lib.hid (show LtQ q9 raw9 (.slice Bm r.ms.length dm) (.slice Bc r.cs.length dc) by rw [hq9]; exact hcp.ltq)
            have HQ9S := Lib.hid (show q9 < M9.heap.size by rw [hM9, hq9]; simp)
            have HBS := Lib.hid (show w5.heap.size ≤ q9 by rw [hq9]; exact hb4'.size)
            clear hcp hM9 hq9 hbM9 hb4'
            go_upto_region 11 with fail
            rw [← HM9.out, ← Hq9E.out]
            rw [← HNN.out] at HCP HLT HXq9
            rw [← HNN.out]
            rw [← HMM.out] at HCP HLT HXq9
            rw [← HMM.out]
            have HRM := Lib.hid (show M9.ownsRow w5.heap.size 48 3 (.slice Bm n dm) n (cellsOf encM r.ms) by have := HCP.out.rm; rwa [← HNN.out] at this)
            obtain ⟨X, hX⟩ : ∃ X : Mem, X = ⟨nm, role, 4096⟩ := ⟨_, rfl⟩
            have HXX := Lib.hid hX
            clear hX
            go_wp2_with fail
            go_loopw [11, 12, 13] (fun l d x wr => ∃ (k ln : Nat) (A : Option Addr) (cap : Nat), k ≤ n ∧ ln ≤ k + 1 ∧ l = .slice A ln cap ∧ d = .bool (decide (p < k)) ∧ x = .int .i64 k ∧ Below (q9 + 1) M9 wr ∧ M9.heap.size ≤ wr.heap.size ∧ wr.ownsRow M9.heap.size 48 3 (.slice A ln cap) ln (cellsOf encM (insK r.ms p X k))) (fun _ _ x _ => n - (intOf x).toNat)
            case atStart => exact ⟨0, 0, none, 0, Nat.zero_le _, by omega, rfl, by rw [decide_eq_false (by omega)], rfl, Below.refl _ _, Nat.le_refl _, World.ownsRow_nil _ _ _ _⟩
            case round =>
              obtain ⟨k, ln, A1, c1, hk, hln, rfl, rfl, rfl, hbw, hsw, how⟩ := hrel
              have HBW := Lib.hid hbw
              have HS_wr := Lib.hid hsw
              have HOW := Lib.hid how
              have HX9 := Lib.hid ((hbw.block q9 (by omega)).trans HXq9.out)
              clear hbw hsw how
              have b0 := cell_of_row _ _ 0 _ _ (0, 0) HX9.out
              by_cases hkn : k < n
              · have hkn2 : (k : Int) < (n : Int) := by omega
                have hkl : k < r.ms.length := by rw [← HNN.out]; exact hkn
                obtain ⟨g, dm', he, hdm, hgb, hgl⟩ := own_form HRM.out (by omega)
                injection he with he1 he2 he3
                subst he1
                subst he3
                have hgq : g < q9 := HLT.out.1 g rfl
                obtain ⟨m0, m1, m2⟩ := cell_mem HRM.out k hkl
                obtain ⟨x, hx⟩ : ∃ x, x = r.ms[k] := ⟨_, rfl⟩
                rw [← hx] at m0 m1 m2
                have k0 := (HBW.out.cell (p := ⟨g, k * 3, none⟩) (by show g < q9 + 1; omega)).trans m0
                have k1 := (HBW.out.cell (p := ⟨g, k * 3 + 1, none⟩) (by show g < q9 + 1; omega)).trans m1
                have k2 := (HBW.out.cell (p := ⟨g, k * 3 + 2, none⟩) (by show g < q9 + 1; omega)).trans m2
                have hls : k < p → cmpN x.name nm < 0 := fun h => by rw [hx]; exact HLS.out k hkl h
                have hge : p ≤ k → ¬ cmpN x.name nm < 0 := fun h h2 => by rw [hx] at h2; have := HGE.out k hkl h; omega
                have hne : x.name ≠ nm := by rw [hx]; exact HNE.out k hkl
                have hxk : (⟨x.name, x.role, x.quota⟩ : Mem) = r.ms[k] := by rw [← hx]
                have hgo : k ≠ p → insK r.ms p X (k + 1) = insK r.ms p X k ++ [x] := fun h => by rw [hx]; exact insK_go _ _ _ k hkl h
                have hat : k = p → insK r.ms p X (k + 1) = insK r.ms p X k ++ [X] ++ [x] := fun h => by subst h; rw [hx]; exact insK_at _ _ _ hkl
                obtain ⟨xn, xr, xq⟩ := x
                dsimp only at k0 k1 k2 hls hge hne hxk
                have HXK := Lib.hid hxk
                clear hxk
                have HLS1 := Lib.hid hls
                have HGE1 := Lib.hid hge
                have HGO := Lib.hid hgo
                have HAT := Lib.hid hat
                have e_eq : (xn.toList == nm.toList) = false := by rw [HEQ.out, decide_eq_false hne]
                have hw1 : IntKind.i64.wrap ((k : Int) + 1) = ((k + 1 : Nat) : Int) := IntWalk.i64_in _ (by omega)
                clear hx hls hge hne hgo hat m0 m1 m2 hgq he2 hgl
                by_cases hkp : k = p
                · have e_lt := bl_is (decide_eq_false (HGE1.out (by omega)))
                  have HAT1 := Lib.hid (HAT.out hkp)
                  have HPK := Lib.hid (show p < k + 1 by omega)
                  rw [decide_eq_false (show ¬ p < k by omega)]
                  clear hkp
                  go_wp2_with ((at_builtin; refine wpList_append_own _ rfl _ _ 28 rfl M9.heap.size 48 i0 _ 3 32 Tryz.underlying28 hi0 hz0 hz1 hz2 rfl (by decide) (.slice A1 ln c1) ln (cellsOf encM (insK r.ms p X k)) rfl (HOW.out.alloc _) ⟨wr.heap.size, 0, none⟩ 1 1 (encM ⟨nm, role, 4096⟩) rfl rfl (Gn.row_new wr (encM ⟨nm, role, 4096⟩) 48 wr.heap.size rfl) (encM_one _) (by unfold maxLen; omega) (by omega) (by simp; have := HS_wr.out; omega) ?_))
                  intro va wa ho9 hg9 _
                  have HBA := Lib.hid (below_grown2 (q := q9) (HBW.out.alloc (by have := HS_wr.out; have := HQ9S.out; omega) (.cells #[.string nm, .int .i64 role, .int .i64 4096] 48)) (by simp; have := HS_wr.out; have := HQ9S.out; omega) hg9 (fun z hz => by have := Gn.own_block HOW.out z hz; have := HQ9S.out; omega))
                  have HS_wa := Lib.hid (show M9.heap.size ≤ wa.heap.size by have := hg9.size; have := HS_wr.out; simp at *; omega)
                  have HOA := Lib.hid (show wa.ownsRow M9.heap.size 48 3 va (ln + 1) (cellsOf encM (insK r.ms p X k ++ [X])) by have h9 := ho9; rw [← HXX.out] at h9; rw [cellsOf_app, cellsM_one]; exact h9)
                  obtain ⟨A_wa, c_wa, rfl⟩ := Gn.slice_of ho9
                  clear ho9 hg9
                  have HXA := Lib.hid ((HBA.out.block q9 (by omega)).trans HXq9.out)
                  have b0 := cell_of_row _ _ 0 _ _ (0, 0) HXA.out
                  have k0 := (HBA.out.cell (p := ⟨g, k * 3, none⟩) (by show g < q9 + 1; have := HLT.out.1 g rfl; omega)).trans (cell_mem HRM.out k (by rw [← HNN.out]; exact hkn)).1
                  have k1 := (HBA.out.cell (p := ⟨g, k * 3 + 1, none⟩) (by show g < q9 + 1; have := HLT.out.1 g rfl; omega)).trans (cell_mem HRM.out k (by rw [← HNN.out]; exact hkn)).2.1
                  have k2 := (HBA.out.cell (p := ⟨g, k * 3 + 2, none⟩) (by show g < q9 + 1; have := HLT.out.1 g rfl; omega)).trans (cell_mem HRM.out k (by rw [← HNN.out]; exact hkn)).2.2
                  rw [← HXK.out] at k0 k1 k2
                  dsimp only at k0 k1 k2
                  go_wp2_with ((at_builtin; refine wpList_append_own _ rfl _ _ 28 rfl M9.heap.size 48 i0 _ 3 32 Tryz.underlying28 hi0 hz0 hz1 hz2 rfl (by decide) (.slice A_wa (ln + 1) c_wa) (ln + 1) (cellsOf encM (insK r.ms p X k ++ [X])) rfl (HOA.out.alloc _) ⟨wa.heap.size, 0, none⟩ 1 1 (encM ⟨xn, xr, xq⟩) rfl rfl (Gn.row_new wa (encM ⟨xn, xr, xq⟩) 48 wa.heap.size rfl) (encM_one _) (by unfold maxLen; omega) (by omega) (by simp; have := HS_wa.out; omega) ?_))
                  intro vb wb ho9 hg9 _
                  have HBB := Lib.hid (below_grown2 (q := q9) (HBA.out.alloc (by have := HS_wa.out; have := HQ9S.out; omega) (.cells #[.string xn, .int .i64 xr, .int .i64 xq] 48)) (by simp; have := HS_wa.out; have := HQ9S.out; omega) hg9 (fun z hz => by have := Gn.own_block HOA.out z hz; have := HQ9S.out; omega))
                  have HS_wb := Lib.hid (show M9.heap.size ≤ wb.heap.size by have := hg9.size; have := HS_wa.out; simp at *; omega)
                  have HOB2 := Lib.hid (show wb.ownsRow M9.heap.size 48 3 vb (ln + 1 + 1) (cellsOf encM (insK r.ms p X (k + 1))) by rw [HAT1.out, cellsOf_app, cellsM_one]; exact ho9)
                  obtain ⟨A_wb, c_wb, rfl⟩ := Gn.slice_of ho9
                  clear ho9 hg9
                  go_wp2_with fail
                  go_roundw
                  case rel => exact ⟨k + 1, ln + 1 + 1, A_wb, c_wb, by omega, (by have h1 := HOB2.out.1; rw [cellsOf_len encM_len] at h1; have h2 := insK_len r.ms p X (k + 1) (by rw [← HNN.out]; omega); omega), rfl, by rw [decide_eq_true HPK.out], by go_num, HBB.out, HS_wb.out, HOB2.out⟩
                  case measure => simp [intOf]; omega
                · have HGO1 := Lib.hid (HGO.out hkp)
                  have hdd : decide (p < k) = decide (p < k + 1) := by rw [decide_eq_decide]; omega
                  by_cases hpk : p < k
                  · rw [decide_eq_true hpk]
                    rw [decide_eq_true hpk] at hdd
                    have HDD := Lib.hid hdd
                    clear hdd hpk hkp
                    go_wp2_with ((at_builtin; refine wpList_append_own _ rfl _ _ 28 rfl M9.heap.size 48 i0 _ 3 32 Tryz.underlying28 hi0 hz0 hz1 hz2 rfl (by decide) (.slice A1 ln c1) ln (cellsOf encM (insK r.ms p X k)) rfl (HOW.out.alloc _) ⟨wr.heap.size, 0, none⟩ 1 1 (encM ⟨xn, xr, xq⟩) rfl rfl (Gn.row_new wr (encM ⟨xn, xr, xq⟩) 48 wr.heap.size rfl) (encM_one _) (by unfold maxLen; omega) (by omega) (by simp; have := HS_wr.out; omega) ?_))
                    intro va wa ho9 hg9 _
                    have HBA := Lib.hid (below_grown2 (q := q9) (HBW.out.alloc (by have := HS_wr.out; have := HQ9S.out; omega) (.cells #[.string xn, .int .i64 xr, .int .i64 xq] 48)) (by simp; have := HS_wr.out; have := HQ9S.out; omega) hg9 (fun z hz => by have := Gn.own_block HOW.out z hz; have := HQ9S.out; omega))
                    have HS_wa := Lib.hid (show M9.heap.size ≤ wa.heap.size by have := hg9.size; have := HS_wr.out; simp at *; omega)
                    have HOA := Lib.hid (show wa.ownsRow M9.heap.size 48 3 va (ln + 1) (cellsOf encM (insK r.ms p X (k + 1))) by rw [HGO1.out, cellsOf_app, cellsM_one]; exact ho9)
                    obtain ⟨A_wa, c_wa, rfl⟩ := Gn.slice_of ho9
                    clear ho9 hg9
                    go_wp2_with fail
                    go_roundw
                    case rel => exact ⟨k + 1, ln + 1, A_wa, c_wa, by omega, by omega, rfl, by rw [← HDD.out], by go_num, HBA.out, HS_wa.out, HOA.out⟩
                    case measure => simp [intOf]; omega
                  · have e_lt := bl_is (decide_eq_true (HLS1.out (by omega)))
                    rw [decide_eq_false hpk]
                    rw [decide_eq_false hpk] at hdd
                    have HDD := Lib.hid hdd
                    clear hdd hpk hkp
                    go_wp2_with ((at_builtin; refine wpList_append_own _ rfl _ _ 28 rfl M9.heap.size 48 i0 _ 3 32 Tryz.underlying28 hi0 hz0 hz1 hz2 rfl (by decide) (.slice A1 ln c1) ln (cellsOf encM (insK r.ms p X k)) rfl (HOW.out.alloc _) ⟨wr.heap.size, 0, none⟩ 1 1 (encM ⟨xn, xr, xq⟩) rfl rfl (Gn.row_new wr (encM ⟨xn, xr, xq⟩) 48 wr.heap.size rfl) (encM_one _) (by unfold maxLen; omega) (by omega) (by simp; have := HS_wr.out; omega) ?_))
                    intro va wa ho9 hg9 _
                    have HBA := Lib.hid (below_grown2 (q := q9) (HBW.out.alloc (by have := HS_wr.out; have := HQ9S.out; omega) (.cells #[.string xn, .int .i64 xr, .int .i64 xq] 48)) (by simp; have := HS_wr.out; have := HQ9S.out; omega) hg9 (fun z hz => by have := Gn.own_block HOW.out z hz; have := HQ9S.out; omega))
                    have HS_wa := Lib.hid (show M9.heap.size ≤ wa.heap.size by have := hg9.size; have := HS_wr.out; simp at *; omega)
                    have HOA := Lib.hid (show wa.ownsRow M9.heap.size 48 3 va (ln + 1) (cellsOf encM (insK r.ms p X (k + 1))) by rw [HGO1.out, cellsOf_app, cellsM_one]; exact ho9)
                    obtain ⟨A_wa, c_wa, rfl⟩ := Gn.slice_of ho9
                    clear ho9 hg9
                    go_wp2_with fail
                    go_roundw
                    case rel => exact ⟨k + 1, ln + 1, A_wa, c_wa, by omega, by omega, rfl, by rw [← HDD.out], by go_num, HBA.out, HS_wa.out, HOA.out⟩
                    case measure => simp [intOf]; omega
              · have hkn2 : ¬ (k : Int) < (n : Int) := by omega
                have hke : k = n := by omega
                rw [hke]
                rw [hke] at HOW hkn2
                clear hke hkn
                by_cases hpn : p < n
                · rw [decide_eq_true hpn]
                  have HIE := Lib.hid (show insK r.ms p X n = r.ms.take p ++ [X] ++ r.ms.drop p by rw [HNN.out]; exact insK_end _ _ _ (by rw [← HNN.out]; exact hpn))
                  clear hpn
                  go_upto_region 22 with fail
                  have HLN := Lib.hid (show (r.ms.take p ++ [(⟨nm, role, 4096⟩ : Mem)] ++ r.ms.drop p).length = ln by
                    have h1 := HOW.out.1
                    rw [cellsOf_len encM_len, HIE.out, HXX.out] at h1
                    omega)
                  obtain ⟨W8, hW8⟩ : ∃ W8, W8 = wr.setCell ⟨q9, 0, none⟩ (.slice A1 ln c1) := ⟨_, rfl⟩
                  have hb8 : Below q9 M9 W8 := by rw [hW8]; exact (HBW.out.mono (Nat.le_succ q9)).setCell (Nat.le_refl _) _
                  have HOB := Lib.hid (HOB.out.above HLOq9.out hb8)
                  have HX8 := Lib.hid (show W8.heap[q9]? = some (.cells #[(.slice A1 ln c1), .slice Bc m dc] 31 (0, 0)) by rw [hW8]; exact Gn.heap_set HX9.out 0 _)
                  have HW8 := Lib.hid hW8
                  have b0 := cell_of_row _ _ 0 _ _ (0, 0) HX9.out
                  have f0 := Gn.frozen_row HX9.out 0
                  have HCQ := Lib.hid (show CpAt w5.heap.size W8 (r.ms.take p ++ [⟨nm, role, 4096⟩] ++ r.ms.drop p) r.cs raw9 (.slice A1 ln c1) (.slice Bc m dc) from
                    HCP.out.remem HLT.out hb8 (by
                      have hl : (r.ms.take p ++ [(⟨nm, role, 4096⟩ : Mem)] ++ r.ms.drop p).length = ln := HLN.out
                      rw [hl, hW8, ← HXX.out, ← HIE.out]
                      exact own_low (own_keep HOW.out fun z hz => set_far z (by have := Gn.own_block HOW.out z hz; have := HQ9S.out; omega)) (by have := HQ9S.out; have := HBS.out; omega)))
                  clear hW8 hb8
                  go_upto_region 23 with fail
                  rw [← HW8.out]
                  clear b0 f0
                  have HRS := Lib.hid (HOB.out.full HCQ.out hlo1).1
                  have HFU := Lib.hid (HOB.out.full HCQ.out hlo1).2
                  have r0' := cell_of_row _ _ 0 _ _ (0, 0) HOB.out.res
                  have r1' := cell_of_row _ _ 1 _ _ (0, 0) HOB.out.res
                  have g0' := Gn.frozen_row HOB.out.res 0
                  have g1' := Gn.frozen_row HOB.out.res 1
                  have o0' := cell_of_row _ _ 0 _ _ (0, 0) HX8.out
                  have o1' := cell_of_row _ _ 1 _ _ (0, 0) HX8.out
                  go_wp2_with fail
                  refine bodyPost_ret (results_ct (P := Tryz.prog) rfl _ _ (W.heap.size + 1) 31 _ (0, 0) _ _ rfl rfl HRS.out Tryz.underlying31 rfl (by kernel_rfl)) rfl ?_
                  rw [HR.out]
                  exact HFU.out
                · rw [decide_eq_false hpn]
                  have HIE := Lib.hid (show insK r.ms p X n ++ [X] = r.ms.take p ++ [X] ++ r.ms.drop p by rw [HNN.out]; exact insK_last _ _ _ (by rw [← HNN.out]; omega))
                  clear hpn
                  go_wp2_with ((at_builtin; refine wpList_append_own _ rfl _ _ 28 rfl M9.heap.size 48 i0 _ 3 32 Tryz.underlying28 hi0 hz0 hz1 hz2 rfl (by decide) (.slice A1 ln c1) ln (cellsOf encM (insK r.ms p X n)) rfl (HOW.out.alloc _) ⟨wr.heap.size, 0, none⟩ 1 1 (encM ⟨nm, role, 4096⟩) rfl rfl (Gn.row_new wr (encM ⟨nm, role, 4096⟩) 48 wr.heap.size rfl) (encM_one _) (by unfold maxLen; omega) (by omega) (by simp; have := HS_wr.out; omega) ?_))
                  intro va wa ho9 hg9 _
                  have HBA := Lib.hid (below_grown2 (q := q9) (HBW.out.alloc (by have := HS_wr.out; have := HQ9S.out; omega) (.cells #[.string nm, .int .i64 role, .int .i64 4096] 48)) (by simp; have := HS_wr.out; have := HQ9S.out; omega) hg9 (fun z hz => by have := Gn.own_block HOW.out z hz; have := HQ9S.out; omega))
                  have HS_wa := Lib.hid (show M9.heap.size ≤ wa.heap.size by have := hg9.size; have := HS_wr.out; simp at *; omega)
                  have HOA := Lib.hid (show wa.ownsRow M9.heap.size 48 3 va (ln + 1) (cellsOf encM (insK r.ms p X n ++ [X])) by have h9 := ho9; rw [← HXX.out] at h9; rw [cellsOf_app, cellsM_one]; exact h9)
                  obtain ⟨A_wa, c_wa, rfl⟩ := Gn.slice_of ho9
                  clear ho9 hg9
                  have HXA := Lib.hid ((HBA.out.block q9 (by omega)).trans HXq9.out)
                  have HLN := Lib.hid (show (r.ms.take p ++ [(⟨nm, role, 4096⟩ : Mem)] ++ r.ms.drop p).length = ln + 1 by
                    have h1 := HOA.out.1
                    rw [cellsOf_len encM_len, HIE.out, HXX.out] at h1
                    omega)
                  clear b0
                  obtain ⟨W8, hW8⟩ : ∃ W8, W8 = wa.setCell ⟨q9, 0, none⟩ (.slice A_wa (ln + 1) c_wa) := ⟨_, rfl⟩
                  have hb8 : Below q9 M9 W8 := by rw [hW8]; exact (HBA.out.mono (Nat.le_succ q9)).setCell (Nat.le_refl _) _
                  have HOB := Lib.hid (HOB.out.above HLOq9.out hb8)
                  have HX8 := Lib.hid (show W8.heap[q9]? = some (.cells #[(.slice A_wa (ln + 1) c_wa), .slice Bc m dc] 31 (0, 0)) by rw [hW8]; exact Gn.heap_set HXA.out 0 _)
                  have HW8 := Lib.hid hW8
                  have b0 := cell_of_row _ _ 0 _ _ (0, 0) HXA.out
                  have f0 := Gn.frozen_row HXA.out 0
                  have HCQ := Lib.hid (show CpAt w5.heap.size W8 (r.ms.take p ++ [⟨nm, role, 4096⟩] ++ r.ms.drop p) r.cs raw9 (.slice A_wa (ln + 1) c_wa) (.slice Bc m dc) from
                    HCP.out.remem HLT.out hb8 (by
                      have hl : (r.ms.take p ++ [(⟨nm, role, 4096⟩ : Mem)] ++ r.ms.drop p).length = (ln + 1) := HLN.out
                      rw [hl, hW8, ← HXX.out, ← HIE.out]
                      exact own_low (own_keep HOA.out fun z hz => set_far z (by have := Gn.own_block HOA.out z hz; have := HQ9S.out; omega)) (by have := HQ9S.out; have := HBS.out; omega)))
                  clear hW8 hb8
                  go_upto_region 23 with fail
                  rw [← HW8.out]
                  clear b0 f0
                  have HRS := Lib.hid (HOB.out.full HCQ.out hlo1).1
                  have HFU := Lib.hid (HOB.out.full HCQ.out hlo1).2
                  have r0' := cell_of_row _ _ 0 _ _ (0, 0) HOB.out.res
                  have r1' := cell_of_row _ _ 1 _ _ (0, 0) HOB.out.res
                  have g0' := Gn.frozen_row HOB.out.res 0
                  have g1' := Gn.frozen_row HOB.out.res 1
                  have o0' := cell_of_row _ _ 0 _ _ (0, 0) HX8.out
                  have o1' := cell_of_row _ _ 1 _ _ (0, 0) HX8.out
                  go_wp2_with fail
                  refine bodyPost_ret (results_ct (P := Tryz.prog) rfl _ _ (W.heap.size + 1) 31 _ (0, 0) _ _ rfl rfl HRS.out Tryz.underlying31 rfl (by kernel_rfl)) rfl ?_
                  rw [HR.out]
                  exact HFU.out
    · have HRO2 := Lib.hid (show decide (role = 1 ∨ role = 2) = false from decide_eq_false hro)
      have r1 : (role == 1) = false := by rw [beq_eq_false_iff_ne]; omega
      have r2 : (role == 2) = false := by rw [beq_eq_false_iff_ne]; omega
      have r3 : (role != 1) = true := by rw [bne, r1]; rfl
      have r4 : (role != 2) = true := by rw [bne, r2]; rfl
      clear hro
      have HR := Lib.hid (show enrolM r nm role = .error 7 by unfold enrolM; rw [if_neg (by rw [← HGB.out]; decide), if_pos HRO2.out])
      have HRS := Lib.hid HOB.out.exit.1
      have HBE := Lib.hid HOB.out.exit.2
      have r0' := cell_of_row _ _ 0 _ _ (0, 0) HOB.out.res
      have r1' := cell_of_row _ _ 1 _ _ (0, 0) HOB.out.res
      have g0' := Gn.frozen_row HOB.out.res 0
      have g1' := Gn.frozen_row HOB.out.res 1
      go_wp2_with fail
      refine bodyPost_ret (results_ct (P := Tryz.prog) rfl _ _ (W.heap.size + 1) 31 _ (0, 0) _ _ rfl rfl HRS.out Tryz.underlying31 rfl (by kernel_rfl)) rfl ?_
      rw [HR.out]
      exact ⟨_, rfl, rl_zero _ _, HBE.out⟩
end Go.Proofs.YtnmhgjoofgmcgaaGreat.Rl
