/-
  Layer 18: Grant.
-/
import Derived.Test.YtnmhgjoofgmcgaaGreatRlMember
namespace Go.Proofs.YtnmhgjoofgmcgaaGreat.Rl
open Go.RowKit
open Fx (StrsAt)
set_option maxRecDepth 100000
set_option linter.unusedSimpArgs false
set_option linter.unusedVariables false
def grantM (r : Rol) (nm : ByteArray) (q : Int) : Except Nat Rol :=
  if hasN r.names nm = false then .error 10
  else if decide (0 ≤ q ∧ q ≤ 65536) = false then .error 1
  else .ok ⟨r.ms.set (plc r.names nm) ⟨(findM r nm).name, (findM r nm).role, q⟩, r.cs⟩
theorem isQuota_any (n : Int) (w : World) : Calls Tryz.prog 61 #[.int .i64 n] w fun e w' => e = .returned (.bool (decide (0 ≤ n ∧ n ≤ 65536))) ∧ w = w' := by
  by_cases h1 : 0 ≤ n
  · by_cases h2 : n ≤ 65536
    · have h3 : decide (0 ≤ n ∧ n ≤ 65536) = true := decide_eq_true ⟨h1, h2⟩
      rw [h3]
      go_enter Tryz.func61, Tryz.ntmps61
      go_wp2
      go_ret
      exact ⟨by simp [h2], rfl⟩
    · have h3 : decide (0 ≤ n ∧ n ≤ 65536) = false := decide_eq_false fun h => h2 h.2
      rw [h3]
      go_enter Tryz.func61, Tryz.ntmps61
      go_wp2
      go_ret
      exact ⟨by simp [h2], rfl⟩
  · have h3 : decide (0 ≤ n ∧ n ≤ 65536) = false := decide_eq_false fun h => h1 h.1
    rw [h3]
    go_enter Tryz.func61, Tryz.ntmps61
    go_wp2
    go_ret
    exact ⟨rfl, rfl⟩
theorem own_quota {w : World} {base g cap n k : Nat} {T : TypeId} {l : List Mem} (h : w.ownsRow base T 3 (.slice (some ⟨g, 0, none⟩) n cap) n (cellsOf encM l)) (hl : l.length = n) (hk : k < l.length) (q : Int) :
    (w.setCell ⟨g, k * 3 + 2, none⟩ (.int .i64 q)).ownsRow base T 3 (.slice (some ⟨g, 0, none⟩) n cap) n (cellsOf encM (l.set k ⟨l[k].name, l[k].role, q⟩)) := by
  have hc := cells_set encM_len (a := .string l[k].name) (b := .int .i64 l[k].role) (c := .int .i64 q) (⟨l[k].name, l[k].role, q⟩ : Mem) rfl l k hk
  have c0 : (cellsOf encM l)[k * 3]? = some (.string l[k].name) := by have := cellsOf_at encM_len l k hk 0 _ rfl; rwa [Nat.add_zero] at this
  have c1 : (cellsOf encM l)[k * 3 + 1]? = some (.int .i64 l[k].role) := cellsOf_at encM_len l k hk 1 _ rfl
  have set_same : ∀ {l : List Value} {i : Nat} {v : Value}, l[i]? = some v → l.set i v = l := fun {l i v} h => by
    apply List.ext_getElem?
    intro j
    by_cases e : i = j
    · subst e
      rw [h, List.getElem?_set_self (by
        rcases Nat.lt_or_ge i l.length with h1 | h1
        · exact h1
        · rw [List.getElem?_eq_none h1] at h; cases h)]
    · rw [List.getElem?_set_ne e]
  rw [set_same c0, set_same c1] at hc
  refine ⟨by rw [cellsOf_len encM_len, List.length_set, hl], ?_⟩
  rcases h.2 with ⟨h0, _⟩ | ⟨g', cap', cur, h0, h1, h2, h3, h4, h5, h6⟩
  · cases h0
  · injection h0 with h0 _ h0c
    injection h0 with h0
    injection h0 with h0
    subst h0
    subst h0c
    refine .inr ⟨g, cap, _, rfl, h1, Gn.heap_set h2 (k * 3 + 2) _, h3, h4, by simpa using h5, ?_⟩
    rw [← hc, ← h6]
    simp only [Array.toList_setIfInBounds]
    rw [List.take_set]
set_option maxHeartbeats 16000000 in
theorem grant_any (r : Rol) (nm : ByteArray) (qu : Int) (hsz : Sized r) (P : Nat → Prop) (W : World) (v : Value) (h : RlAt P W r v) :
    Calls Tryz.prog 22 #[v, .string nm, .int .i64 qu] W (OpOut W (grantM r nm qu)) := by
  obtain ⟨Am, cm, Ac, cc, rfl, hms, hcs⟩ := h.form
  obtain ⟨n, hnn⟩ : ∃ n, n = r.ms.length := ⟨_, rfl⟩
  obtain ⟨m, hmm⟩ : ∃ m, m = r.cs.length := ⟨_, rfl⟩
  rw [← hnn, ← hmm] at h ⊢
  clear hms hcs
  obtain ⟨V, hV⟩ : ∃ V, V = (W.alloc (.cells #[.slice Am n cm, .slice Ac m cc] 27)).alloc (.cells #[.slice none 0 0, .slice none 0 0] 27) := ⟨_, rfl⟩
  have hb : Below W.heap.size W V := by rw [hV]; exact ((Below.refl _ W).alloc (Nat.le_refl _) _).alloc (by simp) _
  have hz : V.heap.size = W.heap.size + 1 + 1 := by rw [hV]; simp
  have hx0 : V.heap[W.heap.size]? = some (.cells #[.slice Am n cm, .slice Ac m cc] 27 (0, 0)) := by rw [hV]; exact (heap_alloc_old _ _ (by simp)).trans (heap_alloc_new W _)
  have hx1 : V.heap[W.heap.size + 1]? = some (.cells #[.slice none 0 0, .slice none 0 0] 27 (0, 0)) := by
    rw [hV]; have := heap_alloc_new (W.alloc (.cells #[.slice Am n cm, .slice Ac m cc] 27)) (.cells #[.slice none 0 0, .slice none 0 0] 27); simpa using this
  obtain ⟨k, hk⟩ : ∃ k, k = plc r.names nm := ⟨_, rfl⟩
  obtain ⟨fd, hfd⟩ : ∃ fd, fd = hasN r.names nm := ⟨_, rfl⟩
  obtain ⟨rl, hrl⟩ : ∃ rl, rl = decide (0 ≤ qu ∧ qu ≤ 65536) := ⟨_, rfl⟩
  have HMB := Lib.hid (member_any r nm P V (.agg #[.slice Am n cm, .slice Ac m cc]) (h.under hb) hsz.names (by have := hsz.ms; omega))
  rw [← hk, ← hfd] at HMB
  have HRO := Lib.hid (fun w => isQuota_any qu w)
  rw [← hrl] at HRO
  have HCO := Lib.hid (fun (w : World) (b : Below W.heap.size W w) => copied_any r P w (.agg #[.slice Am n cm, .slice Ac m cc]) (h.under b) (by have := hsz.ms; omega) (by have := hsz.cs; omega) (fun c hc => by have := hsz.studs c hc; omega))
  have hRe : grantM r nm qu = if fd = false then .error 10 else if rl = false then .error 1 else .ok ⟨r.ms.set k ⟨(findM r nm).name, (findM r nm).role, qu⟩, r.cs⟩ := by
    unfold grantM
    rw [← hfd, ← hrl, ← hk]
  have hkc : fd = true → k < r.ms.length ∧ ∀ h : k < r.ms.length, findM r nm = r.ms[k] := fun e => by
    rw [hfd] at e
    have h1 := plc_lt hsz.names e
    rw [← hk] at h1
    refine ⟨h1, fun h => ?_⟩
    unfold findM
    rw [if_pos e, ← hk, List.getD_eq_getElem?_getD, List.getElem?_eq_getElem h]
    rfl
  have HKC := Lib.hid hkc
  have HRE := Lib.hid hRe
  have HNN := Lib.hid hnn
  have HMM := Lib.hid hmm
  have HV := Lib.hid hV
  have HB := Lib.hid hb
  have HX0 := Lib.hid hx0
  have HX1 := Lib.hid hx1
  have HZ := Lib.hid hz
  have x0 := cell_of_row _ _ 0 _ _ (0, 0) hx0
  have x1 := cell_of_row _ _ 1 _ _ (0, 0) hx0
  clear hV hb hx0 hx1 hz h hnn hmm hk hfd hrl hRe hsz hkc
  go_enter Tryz.func22, Tryz.ntmps22
  go_upto_region 1 with fail
  rw [← HV.out]
  go_wp2_with fail
  refine HMB.out.mono ?_
  rintro e w2 ⟨rfl, hb2⟩
  have hy0 := (hb2.block _ (Gn.heap_lt HX0.out)).trans HX0.out
  have hy1 := (hb2.block _ (Gn.heap_lt HX1.out)).trans HX1.out
  have HY0 := Lib.hid hy0
  have HY1 := Lib.hid hy1
  have HB2 := Lib.hid (HB.out.trans (hb2.mono HB.out.size))
  have HS2 := Lib.hid hb2.size
  have r0 := cell_of_row _ _ 0 _ _ (0, 0) hy1
  have r1 := cell_of_row _ _ 1 _ _ (0, 0) hy1
  have g0 := Gn.frozen_row hy1 0
  have g1 := Gn.frozen_row hy1 1
  have HRS := Lib.hid (Gn.heap_set (Gn.heap_set hy1 0 (.slice none 0 0)) 1 (.slice none 0 0))
  have HBE := Lib.hid ((HB2.out.setCell (p := ⟨W.heap.size + 1, 0, none⟩) (by simp) (.slice none 0 0)).setCell (p := ⟨W.heap.size + 1, 1, none⟩) (by simp) (.slice none 0 0))
  clear hb2 hy0 hy1 x0 x1
  cases fd with
  | false =>
    have HR := Lib.hid (show grantM r nm qu = .error 10 by rw [HRE.out]; rfl)
    go_wp2_with fail
    refine bodyPost_ret (results_ct (P := Tryz.prog) rfl _ _ (W.heap.size + 1) 27 _ (0, 0) _ _ rfl rfl HRS.out Tryz.underlying27 rfl (by kernel_rfl)) rfl ?_
    rw [HR.out]
    exact ⟨_, rfl, rl_zero _ _, HBE.out⟩
  | true =>
    go_wp2_with fail
    refine (HRO.out _).mono ?_
    rintro e w ⟨rfl, rfl⟩
    cases rl with
    | false =>
      have HR := Lib.hid (show grantM r nm qu = .error 1 by rw [HRE.out]; rfl)
      go_wp2_with fail
      refine bodyPost_ret (results_ct (P := Tryz.prog) rfl _ _ (W.heap.size + 1) 27 _ (0, 0) _ _ rfl rfl HRS.out Tryz.underlying27 rfl (by kernel_rfl)) rfl ?_
      rw [HR.out]
      exact ⟨_, rfl, rl_zero _ _, HBE.out⟩
    | true =>
      obtain ⟨hkc, hfm⟩ := HKC.out (by simp)
      have hfm := hfm hkc
      have hkn : k < n := by rw [HNN.out]; exact hkc
      have hkn2 : (k : Int) < (n : Int) := by omega
      have HR := Lib.hid (show grantM r nm qu = .ok ⟨r.ms.set k ⟨r.ms[k].name, r.ms[k].role, qu⟩, r.cs⟩ by rw [HRE.out, hfm]; rfl)
      have y0 := cell_of_row _ _ 0 _ _ (0, 0) HY0.out
      have y1 := cell_of_row _ _ 1 _ _ (0, 0) HY0.out
      clear r0 r1 g0 g1 hfm
      go_wp2_with fail
      refine (HCO.out w2 HB2.out).mono ?_
      rintro e w3 ⟨raws, vm, vc, rfl, hco, hb3⟩
      have hcm := hco.ms
      have hcc := hco.cs
      have hca := hco.all
      have hcn := hco.ne
      rw [← HNN.out] at hcm
      rw [← HMM.out] at hcc
      obtain ⟨A3, c3, rfl⟩ := Gn.slice_of hcm
      obtain ⟨A4, c4, rfl⟩ := Gn.slice_of hcc
      obtain ⟨g3, rfl⟩ : ∃ g3, A3 = some ⟨g3, 0, none⟩ := by
        rcases hcm.2 with ⟨_, h0⟩ | ⟨g3, _, _, h0, _⟩
        · omega
        · injection h0 with h0
          exact ⟨g3, h0⟩
      have hz9 : W.heap.size + 1 < w2.heap.size := Gn.heap_lt HY1.out
      have hg3 : w2.heap.size ≤ g3 := Gn.own_block hcm g3 rfl
      have hq0 := (hb3.block _ (Gn.heap_lt HY0.out)).trans HY0.out
      have hq1 := (hb3.block _ (Gn.heap_lt HY1.out)).trans HY1.out
      obtain ⟨W4, hW4⟩ : ∃ W4, W4 = (w3.setCell ⟨W.heap.size, 0, none⟩ (.slice (some ⟨g3, 0, none⟩) n c3)).setCell ⟨W.heap.size, 1, none⟩ (.slice A4 m c4) := ⟨_, rfl⟩
      have hk4 : ∀ b, W.heap.size ≠ b → W4.heap[b]? = w3.heap[b]? := fun b hb => by rw [hW4]; exact (Gn.set_keep _ _ _ hb).trans (Gn.set_keep _ _ _ hb)
      have hs4 : W4.heap.size = w3.heap.size := by rw [hW4]; simp [World.setCell]
      have hp0 : W4.heap[W.heap.size]? = some (.cells #[.slice (some ⟨g3, 0, none⟩) n c3, .slice A4 m c4] 27 (0, 0)) := by rw [hW4]; exact Gn.heap_set (Gn.heap_set hq0 0 _) 1 _
      have hp1 : W4.heap[W.heap.size + 1]? = some (.cells #[.slice none 0 0, .slice none 0 0] 27 (0, 0)) := (hk4 _ (by omega)).trans hq1
      have hb4 : Below W.heap.size W W4 := by rw [hW4]; exact ((HB2.out.trans (hb3.mono HB2.out.size)).setCell (Nat.le_refl _) _).setCell (Nat.le_refl _) _
      have hom : W4.ownsRow w2.heap.size 45 3 (.slice (some ⟨g3, 0, none⟩) n c3) n (cellsOf encM r.ms) := own_keep hcm fun q hq => hk4 q (by have := Gn.own_block hcm q hq; omega)
      have hoc : W4.ownsRow w2.heap.size 53 3 (.slice A4 m c4) m (cellsOf encC raws) := own_keep hcc fun q hq => hk4 q (by have := Gn.own_block hcc q hq; omega)
      have hal : AllC (fun b => w2.heap.size ≤ b ∧ (Value.slice (some ⟨g3, 0, none⟩) n c3).ownBlock ≠ some b ∧ (Value.slice A4 m c4).ownBlock ≠ some b) W4 raws r.cs := hca.keep (by rw [hs4]; exact Nat.le_refl _) fun q hq _ => ⟨hq, fun j => Gn.cell_same (hk4 q (by omega)) j⟩
      obtain ⟨cur, hcur, hcsz⟩ := own_heap hom
      have hcap := own_cap hom
      obtain ⟨z2, e2⟩ : ∃ z, W4.cell? ⟨g3, k * 3 + 2, none⟩ = some z := ⟨_, (cell_of_row _ _ (k * 3 + 2) _ _ (0, 0) hcur).trans (Array.getElem?_eq_getElem (by omega))⟩
      have ef := Gn.frozen_row hcur (k * 3 + 2)
      obtain ⟨w5, hw5⟩ : ∃ w5, w5 = W4.setCell ⟨g3, k * 3 + 2, none⟩ (.int .i64 qu) := ⟨_, rfl⟩
      have hk5 : ∀ b, g3 ≠ b → w5.heap[b]? = W4.heap[b]? := fun b hb => by rw [hw5]; exact Gn.set_keep _ _ _ hb
      have hs5 : w5.heap.size = W4.heap.size := by rw [hw5]; simp [World.setCell]
      have hr0 : w5.heap[W.heap.size]? = some (.cells #[.slice (some ⟨g3, 0, none⟩) n c3, .slice A4 m c4] 27 (0, 0)) := (hk5 _ (by omega)).trans hp0
      have hr1 : w5.heap[W.heap.size + 1]? = some (.cells #[.slice none 0 0, .slice none 0 0] 27 (0, 0)) := (hk5 _ (by omega)).trans hp1
      obtain ⟨W8, hW8⟩ : ∃ W8, W8 = (w5.setCell ⟨W.heap.size + 1, 0, none⟩ (.slice (some ⟨g3, 0, none⟩) n c3)).setCell ⟨W.heap.size + 1, 1, none⟩ (.slice A4 m c4) := ⟨_, rfl⟩
      have hk8 : ∀ b, W.heap.size + 1 ≠ b → W8.heap[b]? = w5.heap[b]? := fun b h2 => by rw [hW8]; exact (Gn.set_keep _ _ _ h2).trans (Gn.set_keep _ _ _ h2)
      have hs8 : W8.heap.size = w5.heap.size := by rw [hW8]; simp [World.setCell]
      have hres : W8.heap[W.heap.size + 1]? = some (.cells #[.slice (some ⟨g3, 0, none⟩) n c3, .slice A4 m c4] 27 (0, 0)) := by rw [hW8]; exact Gn.heap_set (Gn.heap_set hr1 0 _) 1 _
      have hbel : Below W.heap.size W W8 := by
        rw [hW8, hw5]
        exact ((hb4.setCell (by show W.heap.size ≤ g3; omega) _).setCell (by simp) _).setCell (by simp) _
      have hfin : OpOut W (grantM r nm qu) (.returned (.tuple #[.agg #[.slice (some ⟨g3, 0, none⟩) n c3, .slice A4 m c4], .int .i64 0])) W8 := by
        rw [HR.out]
        have hm8 : W8.ownsRow w2.heap.size 45 3 (.slice (some ⟨g3, 0, none⟩) n c3) (r.ms.set k ⟨r.ms[k].name, r.ms[k].role, qu⟩).length (cellsOf encM (r.ms.set k ⟨r.ms[k].name, r.ms[k].role, qu⟩)) := by
          rw [List.length_set, ← HNN.out]
          have h5 := own_quota hom HNN.out.symm hkc qu
          rw [← hw5] at h5
          exact own_keep h5 fun q hq => hk8 q (by have := Gn.own_block h5 q hq; omega)
        have hc8 : W8.ownsRow w2.heap.size 53 3 (.slice A4 m c4) r.cs.length (cellsOf encC raws) := by
          rw [← HMM.out]
          exact own_keep hoc fun q hq => (hk8 q (by have := Gn.own_block hoc q hq; omega)).trans (hk5 q (fun e => hcn g3 rfl (by rw [e]; exact hq)))
        have ha8 : AllC (fun b => w2.heap.size ≤ b) W8 raws r.cs := hal.keep (by rw [hs8, hs5]; exact Nat.le_refl _) fun q hq hql => ⟨hq.1, fun j => Gn.cell_same ((hk8 q (by have := hq.1; omega)).trans (hk5 q (fun e => hq.2.1 (by rw [e]; rfl)))) j⟩
        exact ⟨_, rfl, (rl_done (r := ⟨r.ms.set k ⟨r.ms[k].name, r.ms[k].role, qu⟩, r.cs⟩) hm8 hc8 ha8).keep (Nat.le_refl _) (fun q hq _ => ⟨by omega, fun _ => rfl⟩), hbel⟩
      have c0 := cell_of_row _ _ 0 _ _ (0, 0) hq0
      have c1 := cell_of_row _ _ 1 _ _ (0, 0) hq0
      have d0 := Gn.frozen_row hq0 0
      have d1 := Gn.frozen_row hq0 1
      have b0 := cell_of_row _ _ 0 _ _ (0, 0) hr0
      have b1 := cell_of_row _ _ 1 _ _ (0, 0) hr0
      have s0 := cell_of_row _ _ 0 _ _ (0, 0) hr1
      have s1 := cell_of_row _ _ 1 _ _ (0, 0) hr1
      have sf0 := Gn.frozen_row hr1 0
      have sf1 := Gn.frozen_row hr1 1
      have p0 := cell_of_row _ _ 0 _ _ (0, 0) hp0
      have HRES := Lib.hid hres
      have HFIN := Lib.hid hfin
      have HW8 := Lib.hid hW8
      have HW5 := Lib.hid hw5
      have HW4 := Lib.hid hW4
      have HKC3 := Lib.hid hkc
      clear hcm hcc hca hcn hco hb3 hq0 hq1 hk4 hs4 hp0 hp1 hb4 hom hoc hal hcur hcsz hcap hk5 hs5 hr0 hr1 hk8 hs8 hres hbel hfin hW8 hw5 hW4 y0 y1 hz9 hg3
      go_upto_region 7 with fail
      rw [← HW4.out]
      clear c0 c1 d0 d1
      go_upto_region 8 with fail
      rw [← HW5.out]
      clear p0 e2 ef
      go_wp2_with fail
      rw [← HW8.out]
      refine bodyPost_ret (results_ct (P := Tryz.prog) rfl _ _ (W.heap.size + 1) 27 _ (0, 0) _ _ rfl rfl HRES.out Tryz.underlying27 rfl (by kernel_rfl)) rfl ?_
      exact HFIN.out
end Go.Proofs.YtnmhgjoofgmcgaaGreat.Rl
