/-
  Layer 18: Open.
-/
import Derived.Test.YtnmhgjoofgmcgaaGreatRlMember
namespace Go.Proofs.YtnmhgjoofgmcgaaGreat.Rl
open Go.RowKit
open Fx (StrsAt)
set_option maxRecDepth 100000
set_option linter.unusedSimpArgs false
set_option linter.unusedVariables false
def openM (r : Rol) (cl tc : ByteArray) : Except Nat Rol :=
  if Lx.goodB (Lx.bs cl) = false then .error 8
  else if hasN r.classes cl = true then .error 9
  else if hasN r.names tc = false then .error 10
  else if (findM r tc).role = 2 then (if 32 ≤ r.cs.length then .error 12
  else .ok ⟨r.ms, r.cs.take (plc r.classes cl) ++ [⟨cl, tc, []⟩] ++ r.cs.drop (plc r.classes cl)⟩)
  else .error 13
theorem craw_one {raws : List CRaw} (h : ∀ (i : Nat) (h : i < raws.length), ∃ A n c, raws[i].studs = .slice A n c) : ∀ u ∈ cellsOf encC raws, u.oneCell' = true := by
  intro u hu
  obtain ⟨l, hl, hul⟩ := List.mem_flatten.1 hu
  obtain ⟨c, hcm, rfl⟩ := List.mem_map.1 hl
  obtain ⟨i, hi, rfl⟩ := List.getElem_of_mem hcm
  obtain ⟨A3, n3, c3, h3⟩ := h i hi
  simp only [encC, List.mem_cons, List.not_mem_nil, or_false] at hul
  rcases hul with rfl | rfl | rfl
  · rfl
  · rfl
  · rw [h3]; rfl
theorem AllC.ins {P : Nat → Prop} {w : World} {raws : List CRaw} {cs : List Cls} (h : AllC P w raws cs) (k : Nat) (hk : k ≤ cs.length) (nm tc : ByteArray) : AllC P w (raws.take k ++ [⟨nm, tc, .slice none 0 0⟩] ++ raws.drop k) (cs.take k ++ [⟨nm, tc, []⟩] ++ cs.drop k) := by
  have hl := h.1
  refine ⟨by simp [hl], fun i h1 h2 => ?_⟩
  by_cases hi : i < k
  · have e1 : (raws.take k ++ [(⟨nm, tc, .slice none 0 0⟩ : CRaw)] ++ raws.drop k)[i] = raws[i]'(by omega) := by
      rw [List.getElem_append_left (by simp; omega), List.getElem_append_left (by simp; omega), List.getElem_take]
    have e2 : (cs.take k ++ [(⟨nm, tc, []⟩ : Cls)] ++ cs.drop k)[i] = cs[i]'(by omega) := by
      rw [List.getElem_append_left (by simp; omega), List.getElem_append_left (by simp; omega), List.getElem_take]
    rw [e1, e2]
    exact h.2 i _ _
  · by_cases hik : i = k
    · subst hik
      have l1 : (raws.take i).length = i := by rw [List.length_take]; omega
      have l2 : (cs.take i).length = i := by rw [List.length_take]; omega
      have e1 : (raws.take i ++ [(⟨nm, tc, .slice none 0 0⟩ : CRaw)] ++ raws.drop i)[i] = ⟨nm, tc, .slice none 0 0⟩ := by
        rw [List.getElem_append_left (by simp; omega), List.getElem_append_right (by omega)]
        simp [l1]
      have e2 : (cs.take i ++ [(⟨nm, tc, []⟩ : Cls)] ++ cs.drop i)[i] = ⟨nm, tc, []⟩ := by
        rw [List.getElem_append_left (by simp; omega), List.getElem_append_right (by omega)]
        simp [l2]
      rw [e1, e2]
      exact ⟨rfl, rfl, none, 0, 0, rfl, by simp, fun h => absurd h (by simp), fun i h => absurd h (by simp)⟩
    · have h2' : i - 1 < cs.length := by simp at h2; omega
      have e1 : (raws.take k ++ [(⟨nm, tc, .slice none 0 0⟩ : CRaw)] ++ raws.drop k)[i] = raws[i - 1]'(by omega) := by
        rw [List.getElem_append_right (by simp; omega), List.getElem_drop]
        congr 1
        simp; omega
      have e2 : (cs.take k ++ [(⟨nm, tc, []⟩ : Cls)] ++ cs.drop k)[i] = cs[i - 1]'(by omega) := by
        rw [List.getElem_append_right (by simp; omega), List.getElem_drop]
        congr 1
        simp; omega
      rw [e1, e2]
      exact h.2 (i - 1) _ _
set_option maxHeartbeats 16000000 in
theorem open_any (r : Rol) (nm tc : ByteArray) (hsz : Sized r) (hnm : nm.size ≤ 9223372036854775807) (P : Nat → Prop) (W : World) (v : Value) (h : RlAt P W r v) :
    Calls Tryz.prog 19 #[v, .string nm, .string tc] W (OpOut W (openM r nm tc)) := by
  obtain ⟨Am, cm, Ac, cc, rfl, hms, hcs⟩ := h.form
  obtain ⟨n, hnn⟩ : ∃ n, n = r.ms.length := ⟨_, rfl⟩
  obtain ⟨m, hmm⟩ : ∃ m, m = r.cs.length := ⟨_, rfl⟩
  rw [← hnn, ← hmm] at h ⊢
  clear hms hcs
  obtain ⟨V, hV⟩ : ∃ V, V = (W.alloc (.cells #[.slice Am n cm, .slice Ac m cc] 27)).alloc (.cells #[.slice none 0 0, .slice none 0 0] 27) := ⟨_, rfl⟩
  have hb : Below W.heap.size W V := by rw [hV]; exact ((Below.refl _ W).alloc (Nat.le_refl _) _).alloc (by simp) _
  have hz : V.heap.size = W.heap.size + 1 + 1 := by rw [hV]; simp
  have hx0 : V.heap[W.heap.size]? = some (.cells #[.slice Am n cm, .slice Ac m cc] 27 (0, 0)) := by rw [hV]; exact (heap_alloc_old _ _ (by simp)).trans (heap_alloc_new W _)
  have hx1 : V.heap[W.heap.size + 1]? = some (.cells #[.slice none 0 0, .slice none 0 0] 27 (0, 0)) := by
    rw [hV]; have := heap_alloc_new (W.alloc (.cells #[.slice Am n cm, .slice Ac m cc] 27)) (.cells #[.slice none 0 0, .slice none 0 0] 27); simpa using this
  obtain ⟨k, hk⟩ : ∃ k, k = plc r.classes nm := ⟨_, rfl⟩
  obtain ⟨fd, hfd⟩ : ∃ fd, fd = hasN r.classes nm := ⟨_, rfl⟩
  obtain ⟨gd, hgd⟩ : ∃ gd, gd = Lx.goodB (Lx.bs nm) := ⟨_, rfl⟩
  obtain ⟨kn, hkn9⟩ : ∃ kn, kn = hasN r.names tc := ⟨_, rfl⟩
  obtain ⟨x, hx⟩ : ∃ x, x = findM r tc := ⟨_, rfl⟩
  have hkn : k ≤ m := by
    rw [hk, hmm]
    have := plc_le nm r.classes
    simpa [Rol.classes] using this
  have HMB := Lib.hid (class_any r nm P V (.agg #[.slice Am n cm, .slice Ac m cc]) (h.under hb) hsz.classes (by have := hsz.cs; omega))
  rw [← hk, ← hfd] at HMB
  have HME := Lib.hid (fun (w : World) (b : Below W.heap.size W w) => Member_any r tc P w (.agg #[.slice Am n cm, .slice Ac m cc]) (h.under b) hsz.names (by have := hsz.ms; omega))
  rw [← hkn9, ← hx] at HME
  have HGD := Lib.hid (fun w => Lx.good_any nm w hnm)
  rw [← hgd] at HGD
  have HCO := Lib.hid (fun (w : World) (b : Below W.heap.size W w) => copied_any r P w (.agg #[.slice Am n cm, .slice Ac m cc]) (h.under b) (by have := hsz.ms; omega) (by have := hsz.cs; omega) (fun c hc => by have := hsz.studs c hc; omega))
  have hn4 : m ≤ 4000 := by rw [hmm]; exact hsz.cs
  have hRe : openM r nm tc = if gd = false then .error 8 else if fd = true then .error 9 else if kn = false then .error 10 else if x.role = 2 then (if 32 ≤ m then .error 12 else .ok ⟨r.ms, r.cs.take k ++ [⟨nm, tc, []⟩] ++ r.cs.drop k⟩) else .error 13 := by
    unfold openM
    rw [← hgd, ← hfd, ← hkn9, ← hx, ← hmm, ← hk]
  have HRE := Lib.hid hRe
  have HNN := Lib.hid hnn
  have HMM := Lib.hid hmm
  have HV := Lib.hid hV
  have HB := Lib.hid hb
  have HX0 := Lib.hid hx0
  have HX1 := Lib.hid hx1
  have HZ := Lib.hid hz
  have x0 := cell_of_row _ _ 0 _ _ (0, 0) hx0
  have x1 := cell_of_row _ _ 1 _ _ (0, 0) hx0
  clear hV hb hx0 hx1 hz h hnn hmm hk hfd hgd hkn9 hx hRe hsz hnm
  go_enter Tryz.func19, Tryz.ntmps19
  go_upto_region 1 with fail
  rw [← HV.out]
  go_wp2_with fail
  refine HMB.out.mono ?_
  rintro e w1 ⟨rfl, hb1⟩
  have hu0 := (hb1.block _ (Gn.heap_lt HX0.out)).trans HX0.out
  have HU0 := Lib.hid hu0
  have HB1 := Lib.hid (HB.out.trans (hb1.mono HB.out.size))
  have HV1 := Lib.hid hb1
  have u0 := cell_of_row _ _ 0 _ _ (0, 0) hu0
  have u1 := cell_of_row _ _ 1 _ _ (0, 0) hu0
  clear hb1 hu0 x0 x1
  go_wp2_with fail
  refine (HME.out w1 HB1.out).mono ?_
  rintro e w19 ⟨rfl, hb19⟩
  obtain ⟨x1, x2, x3⟩ := x
  dsimp only at HME HRE ⊢
  obtain ⟨w2, hw2⟩ : ∃ w2, w2 = w19.alloc (.cells #[.string x1, .int .i64 x2, .int .i64 x3] 45) := ⟨_, rfl⟩
  have hb29 : Below w19.heap.size w19 w2 := by rw [hw2]; exact (Below.refl _ _).alloc (Nat.le_refl _) _
  have hb2 : Below V.heap.size V w2 := HV1.out.trans ((hb19.trans (hb29.mono hb19.size)).mono HV1.out.size)
  have hmb : w2.heap[w19.heap.size]? = some (.cells #[.string x1, .int .i64 x2, .int .i64 x3] 45 (0, 0)) := by rw [hw2]; exact heap_alloc_new _ _
  have mb1 := cell_of_row _ _ 1 _ _ (0, 0) hmb
  have hy0 := (hb2.block _ (Gn.heap_lt HX0.out)).trans HX0.out
  have hy1 := (hb2.block _ (Gn.heap_lt HX1.out)).trans HX1.out
  have HY0 := Lib.hid hy0
  have HY1 := Lib.hid hy1
  have HB2 := Lib.hid (HB.out.trans (hb2.mono HB.out.size))
  have r0 := cell_of_row _ _ 0 _ _ (0, 0) hy1
  have r1 := cell_of_row _ _ 1 _ _ (0, 0) hy1
  have g0 := Gn.frozen_row hy1 0
  have g1 := Gn.frozen_row hy1 1
  have HRS := Lib.hid (Gn.heap_set (Gn.heap_set hy1 0 (.slice none 0 0)) 1 (.slice none 0 0))
  have HBE := Lib.hid ((HB2.out.setCell (p := ⟨W.heap.size + 1, 0, none⟩) (by simp) (.slice none 0 0)).setCell (p := ⟨W.heap.size + 1, 1, none⟩) (by simp) (.slice none 0 0))
  have HW2 := Lib.hid hw2
  clear hb2 hy0 hy1 hb19 hb29 hmb hw2 u0 u1
  go_upto_region 3 with fail
  rw [← HW2.out]
  go_wp2_with fail
  refine (HGD.out w2).mono ?_
  rintro e w ⟨rfl, rfl⟩
  cases gd with
  | false =>
    have HR := Lib.hid (show openM r nm tc = .error 8 by rw [HRE.out]; rfl)
    go_wp2_with fail
    refine bodyPost_ret (results_ct (P := Tryz.prog) rfl _ _ (W.heap.size + 1) 27 _ (0, 0) _ _ rfl rfl HRS.out Tryz.underlying27 rfl (by kernel_rfl)) rfl ?_
    rw [HR.out]
    exact ⟨_, rfl, rl_zero _ _, HBE.out⟩
  | true =>
    cases fd with
    | true =>
      have HR := Lib.hid (show openM r nm tc = .error 9 by rw [HRE.out]; rfl)
      go_wp2_with fail
      refine bodyPost_ret (results_ct (P := Tryz.prog) rfl _ _ (W.heap.size + 1) 27 _ (0, 0) _ _ rfl rfl HRS.out Tryz.underlying27 rfl (by kernel_rfl)) rfl ?_
      rw [HR.out]
      exact ⟨_, rfl, rl_zero _ _, HBE.out⟩
    | false =>
      cases kn with
      | false =>
        have HR := Lib.hid (show openM r nm tc = .error 10 by rw [HRE.out]; rfl)
        go_wp2_with fail
        refine bodyPost_ret (results_ct (P := Tryz.prog) rfl _ _ (W.heap.size + 1) 27 _ (0, 0) _ _ rfl rfl HRS.out Tryz.underlying27 rfl (by kernel_rfl)) rfl ?_
        rw [HR.out]
        exact ⟨_, rfl, rl_zero _ _, HBE.out⟩
      | true =>
        by_cases hr2 : x2 = 2
        · subst hr2
          have y0 := cell_of_row _ _ 0 _ _ (0, 0) HY0.out
          have y1 := cell_of_row _ _ 1 _ _ (0, 0) HY0.out
          by_cases hfull : 32 ≤ m
          · have hf2 : (32 : Int) ≤ (m : Int) := by omega
            have HR := Lib.hid (show openM r nm tc = .error 12 by rw [HRE.out]; simp [hfull])
            go_wp2_with fail
            refine bodyPost_ret (results_ct (P := Tryz.prog) rfl _ _ (W.heap.size + 1) 27 _ (0, 0) _ _ rfl rfl HRS.out Tryz.underlying27 rfl (by kernel_rfl)) rfl ?_
            rw [HR.out]
            exact ⟨_, rfl, rl_zero _ _, HBE.out⟩
          · have hf2 : ¬ (32 : Int) ≤ (m : Int) := by omega
            have HR := Lib.hid (show openM r nm tc = .ok ⟨r.ms, r.cs.take k ++ [⟨nm, tc, []⟩] ++ r.cs.drop k⟩ by rw [HRE.out]; simp [hfull])
            clear r0 r1 g0 g1
            go_wp2_with fail
            refine (HCO.out w2 HB2.out).mono ?_
            rintro e w3 ⟨raws, vm, vc, rfl, hco, hb3⟩
            have hcm := hco.ms
            have hcc := hco.cs
            have hca := hco.all
            have hcn := hco.ne
            rw [← HNN.out] at hcm
            rw [← HMM.out] at hcc
            obtain ⟨A3, c3, rfl⟩ := Gn.slice_of hcm
            obtain ⟨A4, c4, rfl⟩ := Gn.slice_of hcc
            have hz9 : W.heap.size + 1 < w2.heap.size := Gn.heap_lt HY1.out
            have hq0 := (hb3.block _ (Gn.heap_lt HY0.out)).trans HY0.out
            have hq1 := (hb3.block _ (Gn.heap_lt HY1.out)).trans HY1.out
            obtain ⟨W4, hW4⟩ : ∃ W4, W4 = (w3.setCell ⟨W.heap.size, 0, none⟩ (.slice A3 n c3)).setCell ⟨W.heap.size, 1, none⟩ (.slice A4 m c4) := ⟨_, rfl⟩
            have hk4 : ∀ b, W.heap.size ≠ b → W4.heap[b]? = w3.heap[b]? := fun b hb => by rw [hW4]; exact (Gn.set_keep _ _ _ hb).trans (Gn.set_keep _ _ _ hb)
            have hs4 : W4.heap.size = w3.heap.size := by rw [hW4]; simp [World.setCell]
            have hp0 : W4.heap[W.heap.size]? = some (.cells #[.slice A3 n c3, .slice A4 m c4] 27 (0, 0)) := by rw [hW4]; exact Gn.heap_set (Gn.heap_set hq0 0 _) 1 _
            have hp1 : W4.heap[W.heap.size + 1]? = some (.cells #[.slice none 0 0, .slice none 0 0] 27 (0, 0)) := (hk4 _ (by omega)).trans hq1
            have hb4 : Below W.heap.size W W4 := by rw [hW4]; exact ((HB2.out.trans (hb3.mono HB2.out.size)).setCell (Nat.le_refl _) _).setCell (Nat.le_refl _) _
            have hom : W4.ownsRow w2.heap.size 45 3 (.slice A3 n c3) n (cellsOf encM r.ms) := own_keep hcm fun q hq => hk4 q (by have := Gn.own_block hcm q hq; omega)
            have hoc : W4.ownsRow w2.heap.size 53 3 (.slice A4 m c4) m (cellsOf encC raws) := own_keep hcc fun q hq => hk4 q (by have := Gn.own_block hcc q hq; omega)
            have hal : AllC (fun b => w2.heap.size ≤ b ∧ (Value.slice A3 n c3).ownBlock ≠ some b ∧ (Value.slice A4 m c4).ownBlock ≠ some b) W4 raws r.cs := hca.keep (by rw [hs4]; exact Nat.le_refl _) fun q hq _ => ⟨hq, fun j => Gn.cell_same (hk4 q (by omega)) j⟩
            have hs24 : w2.heap.size ≤ W4.heap.size := by rw [hs4]; exact hb3.size
            have HP0 := Lib.hid hp0
            have HP1 := Lib.hid hp1
            have HB4 := Lib.hid hb4
            have HOM := Lib.hid hom
            have HOC := Lib.hid hoc
            have HAL := Lib.hid hal
            have HNE := Lib.hid hcn
            have HS24 := Lib.hid hs24
            have HZ9 := Lib.hid hz9
            have c0 := cell_of_row _ _ 0 _ _ (0, 0) hq0
            have c1 := cell_of_row _ _ 1 _ _ (0, 0) hq0
            have d0 := Gn.frozen_row hq0 0
            have d1 := Gn.frozen_row hq0 1
            have HW4 := Lib.hid hW4
            clear hcm hcc hca hcn hco hb3 hq0 hq1 hk4 hs4 hp0 hp1 hb4 hom hoc hal hs24 hW4 y0 y1 hz9
            go_upto_region 14 with fail
            clear c0 c1 d0 d1
            rw [← HW4.out]
            have c0 := cell_of_row _ _ 0 _ _ (0, 0) HP0.out
            have c1 := cell_of_row _ _ 1 _ _ (0, 0) HP0.out
            obtain ⟨W5, hW5⟩ : ∃ W5, W5 = W4.alloc (.cells #[.string nm, .string tc, .slice none 0 0] 53) := ⟨_, rfl⟩
            have hb5 : Below W4.heap.size W4 W5 := by rw [hW5]; exact (Below.refl _ _).alloc (Nat.le_refl _) _
            have hv5 : W5.heap[W4.heap.size]? = some (.cells #[.string nm, .string tc, .slice none 0 0] 53 (0, 0)) := by rw [hW5]; exact heap_alloc_new _ _
            have hoc5 : W5.ownsRow w2.heap.size 53 3 (.slice A4 m c4) m (cellsOf encC raws) := own_keep HOC.out fun q hq => hb5.block q (Gn.own_lt HOC.out q hq)
            have hone : ∀ u ∈ cellsOf encC raws, u.oneCell' = true := craw_one (fun i hi => by
              have hi2 : i < r.cs.length := by rw [← HAL.out.1]; exact hi
              obtain ⟨A9, c9, h9⟩ := (HAL.out.2 i hi hi2).2.2.form
              exact ⟨A9, _, c9, h9⟩)
            have HINS := Lib.hid (ins_Cls_any w2.heap.size W5 (.slice A4 m c4) m k (cellsOf encC raws) (encC ⟨nm, tc, .slice none 0 0⟩) W4.heap.size hoc5 (Nat.le_trans HS24.out hb5.size) hkn (by omega) hv5 rfl (fun e => by have := Gn.own_lt HOC.out _ e; omega) hone (fun u hu => by
              simp [encC] at hu
              rcases hu with rfl | rfl | rfl <;> rfl))
            have HB5 := Lib.hid hb5
            have HW5 := Lib.hid hW5
            have x1 := (hb5.cell (p := ⟨W.heap.size, 1, none⟩) (Gn.heap_lt HP0.out)).trans c1
            clear hb5 hv5 hoc5 hW5 hone
            go_wp2_with fail
            refine (by rw [← HW5.out]; exact HINS.out : Calls _ _ _ _ _).mono ?_
            rintro e w6 ⟨v6, rfl, ho6, hg6⟩
            obtain ⟨A6, c6, rfl⟩ := Gn.slice_of ho6
            have hom9 := Gn.own_block HOC.out
            have hz9 := HZ9.out
            have hs45 := HB5.out.size
            have h64 : ∀ q, q < W4.heap.size → (Value.slice A4 m c4).ownBlock ≠ some q → w6.heap[q]? = W4.heap[q]? := fun q hq hne => (hg6.block q (by omega) (fun e => hne e.symm)).trans (HB5.out.block q hq)
            have hp0 : w6.heap[W.heap.size]? = some (.cells #[.slice A3 n c3, .slice A4 m c4] 27 (0, 0)) := (h64 _ (Gn.heap_lt HP0.out) (fun e => by have := hom9 _ e; omega)).trans HP0.out
            have hp1 : w6.heap[W.heap.size + 1]? = some (.cells #[.slice none 0 0, .slice none 0 0] 27 (0, 0)) := (h64 _ (Gn.heap_lt HP1.out) (fun e => by have := hom9 _ e; omega)).trans HP1.out
            obtain ⟨W8, hW8⟩ : ∃ W8, W8 = ((w6.setCell ⟨W.heap.size, 1, none⟩ (.slice A6 (m + 1) c6)).setCell ⟨W.heap.size + 1, 0, none⟩ (.slice A3 n c3)).setCell ⟨W.heap.size + 1, 1, none⟩ (.slice A6 (m + 1) c6) := ⟨_, rfl⟩
            have hk8 : ∀ b, W.heap.size ≠ b → W.heap.size + 1 ≠ b → W8.heap[b]? = w6.heap[b]? := fun b h1 h2 => by rw [hW8]; exact (Gn.set_keep _ _ _ h2).trans ((Gn.set_keep _ _ _ h2).trans (Gn.set_keep _ _ _ h1))
            have hs8 : W8.heap.size = w6.heap.size := by rw [hW8]; simp [World.setCell]
            have hq0 : (w6.setCell ⟨W.heap.size, 1, none⟩ (.slice A6 (m + 1) c6)).heap[W.heap.size]? = some (.cells #[.slice A3 n c3, .slice A6 (m + 1) c6] 27 (0, 0)) := Gn.heap_set hp0 1 _
            have hq1 : (w6.setCell ⟨W.heap.size, 1, none⟩ (.slice A6 (m + 1) c6)).heap[W.heap.size + 1]? = some (.cells #[.slice none 0 0, .slice none 0 0] 27 (0, 0)) := (Gn.set_keep _ _ _ (by omega)).trans hp1
            have hres : W8.heap[W.heap.size + 1]? = some (.cells #[.slice A3 n c3, .slice A6 (m + 1) c6] 27 (0, 0)) := by rw [hW8]; exact Gn.heap_set (Gn.heap_set hq1 0 _) 1 _
            have hbel : Below W.heap.size W W8 := by
              have h1 : Below W.heap.size W w6 := ⟨hg6.os.trans (HB5.out.os.trans HB4.out.os), hg6.tape.trans (HB5.out.tape.trans HB4.out.tape), hg6.output.trans (HB5.out.output.trans HB4.out.output), Nat.le_trans HB4.out.size (Nat.le_trans hs45 hg6.size), fun q hq => (h64 q (by have := HB4.out.size; omega) (fun e => by have := hom9 _ e; omega)).trans (HB4.out.block q hq)⟩
              rw [hW8]
              exact ((h1.setCell (Nat.le_refl _) _).setCell (by simp) _).setCell (by simp) _
            have hfin : OpOut W (openM r nm tc) (.returned (.tuple #[.agg #[.slice A3 n c3, .slice A6 (m + 1) c6], .int .i64 0])) W8 := by
              rw [HR.out]
              have hkm : k ≤ r.cs.length := by rw [← HMM.out]; exact hkn
              have hrl : raws.length = r.cs.length := HAL.out.1
              have hlen : (r.cs.take k ++ [(⟨nm, tc, []⟩ : Cls)] ++ r.cs.drop k).length = m + 1 := by
                rw [List.length_append, List.length_append, List.length_take, List.length_drop, HMM.out]
                simp only [List.length_singleton]
                omega
              have hm8 : W8.ownsRow w2.heap.size 45 3 (.slice A3 n c3) r.ms.length (cellsOf encM r.ms) := by
                rw [← HNN.out]
                exact own_keep HOM.out fun q hq => (hk8 q (by have := Gn.own_block HOM.out q hq; omega) (by have := Gn.own_block HOM.out q hq; omega)).trans (h64 q (Gn.own_lt HOM.out q hq) (HNE.out q hq))
              have hc8 : W8.ownsRow w2.heap.size 53 3 (.slice A6 (m + 1) c6) (r.cs.take k ++ [(⟨nm, tc, []⟩ : Cls)] ++ r.cs.drop k).length (cellsOf encC (raws.take k ++ [⟨nm, tc, .slice none 0 0⟩] ++ raws.drop k)) := by
                rw [hlen, cellsOf_app, cellsOf_app, cellsOf_take encC_len _ _ (by omega), cellsOf_drop encC_len _ _ (by omega)]
                exact own_keep ho6 fun q hq => hk8 q (by have := Gn.own_block ho6 q hq; omega) (by have := Gn.own_block ho6 q hq; omega)
              have ha8 : AllC (fun b => w2.heap.size ≤ b) W8 raws r.cs := HAL.out.keep (by rw [hs8]; exact Nat.le_trans hs45 hg6.size) fun q hq hql => ⟨hq.1, fun j => Gn.cell_same ((hk8 q (by omega) (by omega)).trans (h64 q hql hq.2.2)) j⟩
              have ha9 := ha8.ins k (by omega) nm tc
              exact ⟨_, rfl, (rl_done (r := ⟨r.ms, r.cs.take k ++ [⟨nm, tc, []⟩] ++ r.cs.drop k⟩) hm8 hc8 ha9).keep (Nat.le_refl _) (fun q hq _ => ⟨by omega, fun _ => rfl⟩), hbel⟩
            have a1 := cell_of_row _ _ 1 _ _ (0, 0) hp0
            have af := Gn.frozen_row hp0 1
            have b0 := cell_of_row _ _ 0 _ _ (0, 0) hq0
            have b1 := cell_of_row _ _ 1 _ _ (0, 0) hq0
            have s0 := cell_of_row _ _ 0 _ _ (0, 0) hq1
            have s1 := cell_of_row _ _ 1 _ _ (0, 0) hq1
            have sf0 := Gn.frozen_row hq1 0
            have sf1 := Gn.frozen_row hq1 1
            have HRES := Lib.hid hres
            have HFIN := Lib.hid hfin
            have HW8 := Lib.hid hW8
            clear ho6 hg6 hom9 hz9 hs45 h64 hp0 hp1 hk8 hs8 hq0 hq1 hres hbel hfin hW8 c0 c1 x1
            go_wp2_with fail
            rw [← HW8.out]
            refine bodyPost_ret (results_ct (P := Tryz.prog) rfl _ _ (W.heap.size + 1) 27 _ (0, 0) _ _ rfl rfl HRES.out Tryz.underlying27 rfl (by kernel_rfl)) rfl ?_
            exact HFIN.out
        · have hr3 : (x2 != 2) = true := by simpa using hr2
          have HR := Lib.hid (show openM r nm tc = .error 13 by rw [HRE.out]; simp [hr2])
          go_wp2_with fail
          refine bodyPost_ret (results_ct (P := Tryz.prog) rfl _ _ (W.heap.size + 1) 27 _ (0, 0) _ _ rfl rfl HRS.out Tryz.underlying27 rfl (by kernel_rfl)) rfl ?_
          rw [HR.out]
          exact ⟨_, rfl, rl_zero _ _, HBE.out⟩
end Go.Proofs.YtnmhgjoofgmcgaaGreat.Rl
