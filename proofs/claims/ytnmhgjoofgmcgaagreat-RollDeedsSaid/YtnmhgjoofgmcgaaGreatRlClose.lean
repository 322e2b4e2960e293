/-
  Layer 18: Close.
-/
import Derived.Test.YtnmhgjoofgmcgaaGreatRlGrant
import Derived.Test.YtnmhgjoofgmcgaaGreatRlJo
import Derived.Test.YtnmhgjoofgmcgaaGreatRlDel
namespace Go.Proofs.YtnmhgjoofgmcgaaGreat.Rl
open Go.RowKit
open Fx (StrsAt)
set_option maxRecDepth 100000
set_option linter.unusedSimpArgs false
set_option linter.unusedVariables false
def closeM (r : Rol) (nm : ByteArray) : Except Nat Rol :=
  if hasN r.classes nm = false then .error 10
  else .ok ⟨r.ms, r.cs.take (plc r.classes nm) ++ r.cs.drop (plc r.classes nm + 1)⟩
theorem AllC.del {P : Nat → Prop} {W : World} {raws : List CRaw} {cs : List Cls} (h : AllC P W raws cs) (k : Nat) : AllC P W (raws.take k ++ raws.drop (k + 1)) (cs.take k ++ cs.drop (k + 1)) := by
  have hl := h.1
  refine ⟨by simp only [List.length_append, List.length_take, List.length_drop, hl], fun i h1 h2 => ?_⟩
  have h1' := h1
  simp only [List.length_append, List.length_take, List.length_drop] at h1'
  by_cases hik : i < k
  · have e1 : i < raws.length := by omega
    have e2 : i < cs.length := by omega
    rw [List.getElem_append_left (by rw [List.length_take]; omega), List.getElem_append_left (by rw [List.length_take]; omega), List.getElem_take, List.getElem_take]
    exact h.2 i e1 e2
  · have e0 : k < raws.length := by omega
    have e1 : i + 1 < raws.length := by omega
    have e2 : i + 1 < cs.length := by omega
    have t1 : (raws.take k).length = k := by rw [List.length_take]; omega
    have t2 : (cs.take k).length = k := by rw [List.length_take]; omega
    have a1 : (raws.take k ++ raws.drop (k + 1))[i] = raws[i + 1] := by
      rw [List.getElem_append_right (by omega), List.getElem_drop]
      congr 1; omega
    have a2 : (cs.take k ++ cs.drop (k + 1))[i] = cs[i + 1] := by
      rw [List.getElem_append_right (by omega), List.getElem_drop]
      congr 1; omega
    rw [a1, a2]
    exact h.2 (i + 1) e1 e2
set_option maxHeartbeats 16000000 in
theorem close_any (r : Rol) (nm : ByteArray) (hsz : Sized r) (P : Nat → Prop) (W : World) (v : Value) (h : RlAt P W r v) :
    Calls Tryz.prog 23 #[v, .string nm] W (OpOut W (closeM r nm)) := by
  obtain ⟨Am, cm, Ac, cc, rfl, hms, hcs⟩ := h.form
  obtain ⟨n, hnn⟩ : ∃ n, n = r.ms.length := ⟨_, rfl⟩
  obtain ⟨m, hmm⟩ : ∃ m, m = r.cs.length := ⟨_, rfl⟩
  rw [← hnn, ← hmm] at h ⊢
  clear hms hcs
  obtain ⟨V, hV⟩ : ∃ V, V = (W.alloc (.cells #[.slice Am n cm, .slice Ac m cc] 27)).alloc (.cells #[.slice none 0 0, .slice none 0 0] 27) := ⟨_, rfl⟩
  have hb : Below W.heap.size W V := by rw [hV]; exact ((Below.refl _ W).alloc (Nat.le_refl _) _).alloc (by simp) _
  have hz : V.heap.size = W.heap.size + 1 + 1 := by rw [hV]; simp
  have hx0 : V.heap[W.heap.size]? = some (.cells #[.slice Am n cm, .slice Ac m cc] 27 (0, 0)) := by rw [hV]; exact (heap_alloc_old _ _ (by simp)).trans (heap_alloc_new W _)
  have hx1 : V.heap[W.heap.size + 1]? = some (.cells #[.slice none 0 0, .slice none 0 0] 27 (0, 0)) := by
    rw [hV]; have := heap_alloc_new (W.alloc (.cells #[.slice Am n cm, .slice Ac m cc] 27)) (.cells #[.slice none 0 0, .slice none 0 0] 27); simpa using this
  obtain ⟨k, hk⟩ : ∃ k, k = plc r.classes nm := ⟨_, rfl⟩
  obtain ⟨fd, hfd⟩ : ∃ fd, fd = hasN r.classes nm := ⟨_, rfl⟩
  have HMB := Lib.hid (class_any r nm P V (.agg #[.slice Am n cm, .slice Ac m cc]) (h.under hb) hsz.classes (by have := hsz.cs; omega))
  rw [← hk, ← hfd] at HMB
  have HCO := Lib.hid (fun (w : World) (b : Below W.heap.size W w) => copied_any r P w (.agg #[.slice Am n cm, .slice Ac m cc]) (h.under b) (by have := hsz.ms; omega) (by have := hsz.cs; omega) (fun c hc => by have := hsz.studs c hc; omega))
  have hRe : closeM r nm = if fd = false then .error 10 else .ok ⟨r.ms, r.cs.take k ++ r.cs.drop (k + 1)⟩ := by
    unfold closeM
    rw [← hfd, ← hk]
  have hkc : fd = true → k < r.cs.length := fun e => by rw [hfd] at e; rw [hk]; exact plc_lt2 hsz.classes e
  have hn4 : m ≤ 4000 := by rw [hmm]; exact hsz.cs
  have HKC := Lib.hid hkc
  have HRE := Lib.hid hRe
  have HNN := Lib.hid hnn
  have HMM := Lib.hid hmm
  have HV := Lib.hid hV
  have HB := Lib.hid hb
  have HX0 := Lib.hid hx0
  have HX1 := Lib.hid hx1
  have HZ := Lib.hid hz
  have x0 := cell_of_row _ _ 0 _ _ (0, 0) hx0
  have x1 := cell_of_row _ _ 1 _ _ (0, 0) hx0
  clear hV hb hx0 hx1 hz h hnn hmm hk hfd hRe hsz hkc
  go_enter Tryz.func23, Tryz.ntmps23
  go_upto_region 1 with fail
  rw [← HV.out]
  go_wp2_with fail
  refine HMB.out.mono ?_
  rintro e w2 ⟨rfl, hb2⟩
  have hy0 := (hb2.block _ (Gn.heap_lt HX0.out)).trans HX0.out
  have hy1 := (hb2.block _ (Gn.heap_lt HX1.out)).trans HX1.out
  have HY0 := Lib.hid hy0
  have HY1 := Lib.hid hy1
  have HB2 := Lib.hid (HB.out.trans (hb2.mono HB.out.size))
  have HS2 := Lib.hid hb2.size
  have r0 := cell_of_row _ _ 0 _ _ (0, 0) hy1
  have r1 := cell_of_row _ _ 1 _ _ (0, 0) hy1
  have g0 := Gn.frozen_row hy1 0
  have g1 := Gn.frozen_row hy1 1
  have HRS := Lib.hid (Gn.heap_set (Gn.heap_set hy1 0 (.slice none 0 0)) 1 (.slice none 0 0))
  have HBE := Lib.hid ((HB2.out.setCell (p := ⟨W.heap.size + 1, 0, none⟩) (by simp) (.slice none 0 0)).setCell (p := ⟨W.heap.size + 1, 1, none⟩) (by simp) (.slice none 0 0))
  clear hb2 hy0 hy1 x0 x1
  cases fd with
  | false =>
    have HR := Lib.hid (show closeM r nm = .error 10 by rw [HRE.out]; rfl)
    go_wp2_with fail
    refine bodyPost_ret (results_ct (P := Tryz.prog) rfl _ _ (W.heap.size + 1) 27 _ (0, 0) _ _ rfl rfl HRS.out Tryz.underlying27 rfl (by kernel_rfl)) rfl ?_
    rw [HR.out]
    exact ⟨_, rfl, rl_zero _ _, HBE.out⟩
  | true =>
    have hkc := HKC.out rfl
    have hkm : k < m := by rw [HMM.out]; exact hkc
    have hkm2 : (k : Int) < (m : Int) := by omega
    have hw1 : IntKind.i64.wrap ((k : Int) + 1) = ((k + 1 : Nat) : Int) := IntWalk.i64_in _ (by omega)
    have HR := Lib.hid (show closeM r nm = .ok ⟨r.ms, r.cs.take k ++ r.cs.drop (k + 1)⟩ by rw [HRE.out]; rfl)
    have y0 := cell_of_row _ _ 0 _ _ (0, 0) HY0.out
    have y1 := cell_of_row _ _ 1 _ _ (0, 0) HY0.out
    clear r0 r1 g0 g1
    go_wp2_with fail
    refine (HCO.out w2 HB2.out).mono ?_
    rintro e w3 ⟨raws, vm, vc, rfl, hco, hb3⟩
    have hcm := hco.ms
    have hcc := hco.cs
    have hca := hco.all
    have hcn := hco.ne
    rw [← HNN.out] at hcm
    rw [← HMM.out] at hcc
    obtain ⟨A3, c3, rfl⟩ := Gn.slice_of hcm
    obtain ⟨A4, c4, rfl⟩ := Gn.slice_of hcc
    obtain ⟨g4, rfl⟩ : ∃ g4, A4 = some ⟨g4, 0, none⟩ := by
      rcases hcc.2 with ⟨_, h0⟩ | ⟨g4, _, _, h0, _⟩
      · omega
      · injection h0 with h0
        exact ⟨g4, h0⟩
    have hz9 : W.heap.size + 1 < w2.heap.size := Gn.heap_lt HY1.out
    have hq0 := (hb3.block _ (Gn.heap_lt HY0.out)).trans HY0.out
    have hq1 := (hb3.block _ (Gn.heap_lt HY1.out)).trans HY1.out
    obtain ⟨W4, hW4⟩ : ∃ W4, W4 = (w3.setCell ⟨W.heap.size, 0, none⟩ (.slice A3 n c3)).setCell ⟨W.heap.size, 1, none⟩ (.slice (some ⟨g4, 0, none⟩) m c4) := ⟨_, rfl⟩
    have hk4 : ∀ b, W.heap.size ≠ b → W4.heap[b]? = w3.heap[b]? := fun b hb => by rw [hW4]; exact (Gn.set_keep _ _ _ hb).trans (Gn.set_keep _ _ _ hb)
    have hs4 : W4.heap.size = w3.heap.size := by rw [hW4]; simp [World.setCell]
    have hp0 : W4.heap[W.heap.size]? = some (.cells #[.slice A3 n c3, .slice (some ⟨g4, 0, none⟩) m c4] 27 (0, 0)) := by rw [hW4]; exact Gn.heap_set (Gn.heap_set hq0 0 _) 1 _
    have hp1 : W4.heap[W.heap.size + 1]? = some (.cells #[.slice none 0 0, .slice none 0 0] 27 (0, 0)) := (hk4 _ (by omega)).trans hq1
    have hb4 : Below W.heap.size W W4 := by rw [hW4]; exact ((HB2.out.trans (hb3.mono HB2.out.size)).setCell (Nat.le_refl _) _).setCell (Nat.le_refl _) _
    have hom : W4.ownsRow w2.heap.size 45 3 (.slice A3 n c3) n (cellsOf encM r.ms) := own_keep hcm fun q hq => hk4 q (by have := Gn.own_block hcm q hq; omega)
    have hoc : W4.ownsRow w2.heap.size 53 3 (.slice (some ⟨g4, 0, none⟩) m c4) m (cellsOf encC raws) := own_keep hcc fun q hq => hk4 q (by have := Gn.own_block hcc q hq; omega)
    have hal : AllC (fun b => w2.heap.size ≤ b ∧ (Value.slice A3 n c3).ownBlock ≠ some b ∧ (Value.slice (some ⟨g4, 0, none⟩) m c4).ownBlock ≠ some b) W4 raws r.cs := hca.keep (by rw [hs4]; exact Nat.le_refl _) fun q hq _ => ⟨hq, fun j => Gn.cell_same (hk4 q (by omega)) j⟩
    have hs24 : w2.heap.size ≤ W4.heap.size := by rw [hs4]; exact hb3.size
    have hone : ∀ u ∈ cellsOf encC raws, u.oneCell' = true := craw_one (fun i hi => by
      have hi2 : i < r.cs.length := by rw [← hal.1]; exact hi
      obtain ⟨A9, c9, h9⟩ := (hal.2 i hi hi2).2.2.form
      exact ⟨A9, _, c9, h9⟩)
    have HDE := Lib.hid (del_Cls w2.heap.size W4 g4 c4 m k (cellsOf encC raws) hoc (by omega) hkm hone hs24)
    have HP0 := Lib.hid hp0
    have HP1 := Lib.hid hp1
    have HB4 := Lib.hid hb4
    have HOM := Lib.hid hom
    have HOC := Lib.hid hoc
    have HAL := Lib.hid hal
    have HNE := Lib.hid hcn
    have HS24 := Lib.hid hs24
    have HZ9 := Lib.hid hz9
    have c0 := cell_of_row _ _ 0 _ _ (0, 0) hq0
    have c1 := cell_of_row _ _ 1 _ _ (0, 0) hq0
    have d0 := Gn.frozen_row hq0 0
    have d1 := Gn.frozen_row hq0 1
    have HW4 := Lib.hid hW4
    clear hcm hcc hca hcn hco hb3 hq0 hq1 hk4 hs4 hp0 hp1 hb4 hom hoc hal hs24 hW4 y0 y1 hz9 hone
    go_upto_region 5 with fail
    clear c0 c1 d0 d1
    rw [← HW4.out]
    have c1 := cell_of_row _ _ 1 _ _ (0, 0) HP0.out
    go_wp2_with fail
    refine HDE.out.mono ?_
    rintro e w6 ⟨rfl, ho6, hg6⟩
    have hom9 := Gn.own_block HOC.out
    have hz9 := HZ9.out
    have h64 : ∀ q, q < W4.heap.size → q ≠ g4 → w6.heap[q]? = W4.heap[q]? := fun q hq hne => hg6.block q hq (fun e => hne (Option.some.inj e))
    have hg49 : w2.heap.size ≤ g4 := hom9 g4 rfl
    have hp0 : w6.heap[W.heap.size]? = some (.cells #[.slice A3 n c3, .slice (some ⟨g4, 0, none⟩) m c4] 27 (0, 0)) := (h64 _ (Gn.heap_lt HP0.out) (by omega)).trans HP0.out
    have hp1 : w6.heap[W.heap.size + 1]? = some (.cells #[.slice none 0 0, .slice none 0 0] 27 (0, 0)) := (h64 _ (Gn.heap_lt HP1.out) (by omega)).trans HP1.out
    obtain ⟨W8, hW8⟩ : ∃ W8, W8 = ((w6.setCell ⟨W.heap.size, 1, none⟩ (.slice (some ⟨g4, 0, none⟩) (m - 1) c4)).setCell ⟨W.heap.size + 1, 0, none⟩ (.slice A3 n c3)).setCell ⟨W.heap.size + 1, 1, none⟩ (.slice (some ⟨g4, 0, none⟩) (m - 1) c4) := ⟨_, rfl⟩
    have hk8 : ∀ b, W.heap.size ≠ b → W.heap.size + 1 ≠ b → W8.heap[b]? = w6.heap[b]? := fun b h1 h2 => by rw [hW8]; exact (Gn.set_keep _ _ _ h2).trans ((Gn.set_keep _ _ _ h2).trans (Gn.set_keep _ _ _ h1))
    have hs8 : W8.heap.size = w6.heap.size := by rw [hW8]; simp [World.setCell]
    have hq0 : (w6.setCell ⟨W.heap.size, 1, none⟩ (.slice (some ⟨g4, 0, none⟩) (m - 1) c4)).heap[W.heap.size]? = some (.cells #[.slice A3 n c3, .slice (some ⟨g4, 0, none⟩) (m - 1) c4] 27 (0, 0)) := Gn.heap_set hp0 1 _
    have hq1 : (w6.setCell ⟨W.heap.size, 1, none⟩ (.slice (some ⟨g4, 0, none⟩) (m - 1) c4)).heap[W.heap.size + 1]? = some (.cells #[.slice none 0 0, .slice none 0 0] 27 (0, 0)) := (Gn.set_keep _ _ _ (by omega)).trans hp1
    have hres : W8.heap[W.heap.size + 1]? = some (.cells #[.slice A3 n c3, .slice (some ⟨g4, 0, none⟩) (m - 1) c4] 27 (0, 0)) := by rw [hW8]; exact Gn.heap_set (Gn.heap_set hq1 0 _) 1 _
    have hbel : Below W.heap.size W W8 := by
      have h1 : Below W.heap.size W w6 := ⟨hg6.os.trans HB4.out.os, hg6.tape.trans HB4.out.tape, hg6.output.trans HB4.out.output, Nat.le_trans HB4.out.size hg6.size, fun q hq => (h64 q (by have := HB4.out.size; omega) (by omega)).trans (HB4.out.block q hq)⟩
      rw [hW8]
      exact ((h1.setCell (Nat.le_refl _) _).setCell (by simp) _).setCell (by simp) _
    have hfin : OpOut W (closeM r nm) (.returned (.tuple #[.agg #[.slice A3 n c3, .slice (some ⟨g4, 0, none⟩) (m - 1) c4], .int .i64 0])) W8 := by
      rw [HR.out]
      have hrl : raws.length = r.cs.length := HAL.out.1
      have hlen : (r.cs.take k ++ r.cs.drop (k + 1)).length = m - 1 := by
        rw [List.length_append, List.length_take, List.length_drop, HMM.out]
        omega
      have hm8 : W8.ownsRow w2.heap.size 45 3 (.slice A3 n c3) r.ms.length (cellsOf encM r.ms) := by
        rw [← HNN.out]
        exact own_keep HOM.out fun q hq => (hk8 q (by have := Gn.own_block HOM.out q hq; omega) (by have := Gn.own_block HOM.out q hq; omega)).trans (h64 q (Gn.own_lt HOM.out q hq) (fun e => HNE.out q hq (by rw [e]; rfl)))
      have hc8 : W8.ownsRow w2.heap.size 53 3 (.slice (some ⟨g4, 0, none⟩) (m - 1) c4) (r.cs.take k ++ r.cs.drop (k + 1)).length (cellsOf encC (raws.take k ++ raws.drop (k + 1))) := by
        rw [hlen, cellsOf_app, cellsOf_take encC_len _ _ (by omega), cellsOf_drop encC_len _ _ (by omega)]
        exact own_keep ho6 fun q hq => hk8 q (by have := Gn.own_block ho6 q hq; omega) (by have := Gn.own_block ho6 q hq; omega)
      have ha8 : AllC (fun b => w2.heap.size ≤ b) W8 raws r.cs := HAL.out.keep (by rw [hs8]; exact hg6.size) fun q hq hql => ⟨hq.1, fun j => Gn.cell_same ((hk8 q (by omega) (by omega)).trans (h64 q hql (fun e => hq.2.2 (by rw [e]; rfl)))) j⟩
      have ha9 := ha8.del k
      exact ⟨_, rfl, (rl_done (r := ⟨r.ms, r.cs.take k ++ r.cs.drop (k + 1)⟩) hm8 hc8 ha9).keep (Nat.le_refl _) (fun q hq _ => ⟨by omega, fun _ => rfl⟩), hbel⟩
    have a1 := cell_of_row _ _ 1 _ _ (0, 0) hp0
    have af := Gn.frozen_row hp0 1
    have b0 := cell_of_row _ _ 0 _ _ (0, 0) hq0
    have b1 := cell_of_row _ _ 1 _ _ (0, 0) hq0
    have s0 := cell_of_row _ _ 0 _ _ (0, 0) hq1
    have s1 := cell_of_row _ _ 1 _ _ (0, 0) hq1
    have sf0 := Gn.frozen_row hq1 0
    have sf1 := Gn.frozen_row hq1 1
    have HRES := Lib.hid hres
    have HFIN := Lib.hid hfin
    have HW8 := Lib.hid hW8
    clear ho6 hg6 hom9 hz9 hg49 h64 hp0 hp1 hk8 hs8 hq0 hq1 hres hbel hfin hW8 c1
    go_wp2_with fail
    rw [← HW8.out]
    refine bodyPost_ret (results_ct (P := Tryz.prog) rfl _ _ (W.heap.size + 1) 27 _ (0, 0) _ _ rfl rfl HRES.out Tryz.underlying27 rfl (by kernel_rfl)) rfl ?_
    exact HFIN.out
end Go.Proofs.YtnmhgjoofgmcgaaGreat.Rl
