/-
  Layer 14: the walk of TreeGrows.
-/
import Derived.Deep.DeepCutAuto
import Derived.Test.YtjlppffkacimoaaTrMadeW
import Derived.Test.YtjlppffkacimoaaTrL
import Derived.Test.YtjlppffkacimoaaTrX
import Derived.Test.YtjlppffkacimoaaTrGw
import Derived.Test.YtjlppffkacimoaaTrGx
import Derived.Test.YtjlppffkacimoaaTrRead
namespace Go.Proofs.Ytjlppffkacimoaa.Fx
open Go.RowKit
set_option maxRecDepth 100000
set_option linter.unusedSimpArgs false
set_option linter.unusedVariables false
open Tr (Tr TrAt nodesT deepT SmT smT_of fitsT rootT prodT yieldT putT symT grownT GwOut speaks_any Played playR replayR)
open Gn (Sep)
theorem play_root {g : PG} (hM : Made g) {t : Tr} (h : fitsT g t = true) (hr : rootT g t.prod = (g.start, true)) (hn : nodesT t ≤ 65536) : replayR g g.start (prodT t) = .ok ((yieldT t).map symT) := by
  unfold replayR
  rw [if_neg (by have := hM.start; omega)]
  have := Tr.play_all (Tr.made_few hM).2.2.2.2.1 h hn
  rwa [hr] at this
theorem get_is {g : PG} (hM : Made g) (hs : soundB g = true) {t : Tr} (h : fitsT g t = true) (hn : nodesT t ≤ 65536) : Tr.getE g (putT t) = .ok t := by
  unfold Tr.getE
  rw [if_pos hs]
  exact Tr.get_put (Tr.made_few hM).2.2.2.1 h hn
theorem side_len {g : PG} (hM : Made g) (n : Int) : (Tr.sideT g n).length ≤ 1099511627776 := by
  unfold Tr.sideT
  split
  · simp
  · split
    · rename_i h
      have := hM.short _ (List.getElem_mem h)
      omega
    · simp

set_option maxHeartbeats 8000000 in
theorem walk_grows (N T St : Int) (left : List Int) (right : List (List Int)) (W : World) (vl vr : Value) (hl : NumsIn W left vl) (hr : RowsIn W right vr) (hlm : left.length ≤ maxLen) (hrm : right.length ≤ maxLen) (hrm2 : ∀ r ∈ right, r.length ≤ maxLen) (cs : List Int) (vq : Value) (hq : NumsIn W cs vq) (hqm : cs.length ≤ maxLen) :
    Calls Try.prog 6 #[.agg #[.int .i64 N, .int .i64 T, .int .i64 St, vl, vr], vq] W fun e w' => e = .returned (.bool true) ∧ Below W.heap.size W w' := by
  have HM := Lib.hid (fun w (b : Below W.heap.size W w) => made_any N T St left right w vl vr (hl.under b) (hr.under b) hlm hrm hrm2)
  have HS := Lib.hid (fun w => speaks_any w)
  have hqm2 : cs.length ≤ 9223372036854775807 := hqm
  have hq0 := hq
  obtain ⟨Aq, cq, bq, oq, rfl, hqb, hqi⟩ := hq
  obtain ⟨lq, hlq⟩ : ∃ lq, lq = cs.length := ⟨_, rfl⟩
  have HQC := Lib.hid (show ∀ (w : World) (ab : Nat), Below W.heap.size W w → W.heap.size ≤ ab → Tr.ChAt ab w cs (.slice Aq cs.length cq) from fun w ab b hab => ⟨Aq, cq, bq, oq, rfl, fun h0 => ⟨(hqb h0).1, by have := (hqb h0).2; omega⟩, fun i hi => (b.cell (p := ⟨bq, oq + i, none⟩) (hqb (by omega)).2).trans (hqi i hi)⟩)
  rw [← hlq] at hqm HQC ⊢
  have HQM := Lib.hid hqm2
  clear hlq hqi hqb hq0 hqm2
  unfold maxLen at hqm
  obtain ⟨A, c, _, _, rfl, _⟩ := hl
  obtain ⟨Ar, cr, _, _, _, rfl, _⟩ := hr
  obtain ⟨nl, hnl⟩ : ∃ nl, nl = left.length := ⟨_, rfl⟩
  obtain ⟨nr, hnr⟩ : ∃ nr, nr = right.length := ⟨_, rfl⟩
  rw [← hnl, ← hnr] at HM ⊢
  clear hnl hnr hlm hrm hrm2
  have hb0 := (Below.refl W.heap.size W).alloc (Nat.le_refl _) (.cells #[.int .i64 N, .int .i64 T, .int .i64 St, .slice A nl c, .slice Ar nr cr] 25)
  have hx0 := heap_alloc_new W (.cells #[.int .i64 N, .int .i64 T, .int .i64 St, .slice A nl c, .slice Ar nr cr] 25)
  have HB0 := Lib.hid hb0
  have HX0 := Lib.hid hx0
  clear hb0 hx0
  go_enter Try.func6, Try.ntmps6
  go_wp2_with fail
  refine (HS.out _).mono ?_
  rintro e w1 ⟨rfl, b1⟩
  have hb1 := HB0.out.trans (b1.mono HB0.out.size)
  have hx1 := (b1.block W.heap.size (by simp)).trans HX0.out
  have HB1 := Lib.hid hb1
  have x0 := cell_of_row _ _ 0 _ _ (0, 0) hx1
  have x1 := cell_of_row _ _ 1 _ _ (0, 0) hx1
  have x2 := cell_of_row _ _ 2 _ _ (0, 0) hx1
  have x3 := cell_of_row _ _ 3 _ _ (0, 0) hx1
  have x4 := cell_of_row _ _ 4 _ _ (0, 0) hx1
  clear hb1 hx1 b1
  go_wp2_with fail
  refine (HM.out _ HB1.out).mono ?_
  rintro e w2 ⟨v, u, g, rfl, hM, hv, hu, b2⟩
  have hv' := hv
  have hu' := hu
  obtain ⟨An, At_, Ap, cn, ct, cp, rfl, _, _, hP⟩ := hv'.open_
  obtain ⟨Bn, Bt, Bp, dn, dt, dp, rfl, _, _, _⟩ := hu'.open_
  have HMD := Lib.hid hM
  have HV := Lib.hid hv
  have HU := Lib.hid hu
  have HP := Lib.hid hP
  have HB2 := Lib.hid (HB1.out.trans (b2.mono HB1.out.size))
  clear hM hv hv' hu hu' b2 hP
  have HF : g.Fits := HMD.out.fits g.start
  have hsd : soundB g = true := by have := HMD.out.sound g.start; rw [show g.from_ g.start = g from rfl] at this; rw [this, decide_eq_true_iff]; exact HMD.out.start
  have HSD := Lib.hid hsd
  have HFT := Lib.hid HF
  have hn1 := HMD.out.few.1
  have hn8 := HMD.out.few.2.1
  have hlt3 := HMD.out.few.2.2.1
  have hnp := HMD.out.few.2.2.2
  obtain ⟨n, hn⟩ : ∃ n, n = g.names.length := ⟨_, rfl⟩
  obtain ⟨np, hnp'⟩ : ∃ np, np = g.prods.length := ⟨_, rfl⟩
  have HNN := Lib.hid hn
  have HNP := Lib.hid hnp'
  obtain ⟨st, hst⟩ : ∃ st : Nat, g.start = (st : Int) := ⟨g.start.toNat, by have := HMD.out.start.1; omega⟩
  have hstn : st < n := by have := HMD.out.start.2; omega
  have HST := Lib.hid hst
  rw [← hn] at hn1 hn8 ⊢
  rw [← hnp'] at hnp ⊢
  obtain ⟨lt, hlt⟩ : ∃ lt, lt = g.terms.length := ⟨_, rfl⟩
  have HLT := Lib.hid hlt
  rw [← hlt] at hlt3
  rw [← hlt]
  rw [hst]
  have HV2 := Lib.hid (show PgAt (fun q => w1.heap.size ≤ q) w2 g (.agg #[.int .i64 st, .int .i64 g.rules, .slice An n cn, .slice At_ lt ct, .slice Ap np cp]) by rw [hn, hnp', hlt, ← hst]; exact HV.out)
  have HU2 := Lib.hid (show PgAt (fun q => w1.heap.size ≤ q) w2 g (.agg #[.int .i64 st, .int .i64 g.rules, .slice Bn n dn, .slice Bt lt dt, .slice Bp np dp]) by rw [hn, hnp', hlt, ← hst]; exact HU.out)
  have HP2 := Lib.hid (show PrdsAt (fun q => w1.heap.size ≤ q) w2 g.prods (.slice Ap np cp) by rw [hnp']; exact HP.out)
  obtain ⟨ru, hru⟩ : ∃ ru, ru = g.rules := ⟨_, rfl⟩
  rw [← hru] at HV2 HU2 ⊢
  clear HF hsd hn hnp' hlt hst HV HP HU hru
  go_upto_region 4 with fail
  have HBX := Lib.hid (⟨((Below.refl w2.heap.size w2).alloc (Nat.le_refl _) _).alloc (by simp) _, (heap_alloc_old _ _ (by simp)).trans (heap_alloc_new w2 _), heap_new _ _ _ (by simp)⟩ : Below w2.heap.size w2 ((w2.alloc (.cells #[.int .i64 st, .int .i64 ru, .slice An n cn, .slice At_ lt ct, .slice Ap np cp] 31)).alloc (.cells #[.int .i64 st, .int .i64 ru, .slice Bn n dn, .slice Bt lt dt, .slice Bp np dp] 34)) ∧ ((w2.alloc (.cells #[.int .i64 st, .int .i64 ru, .slice An n cn, .slice At_ lt ct, .slice Ap np cp] 31)).alloc (.cells #[.int .i64 st, .int .i64 ru, .slice Bn n dn, .slice Bt lt dt, .slice Bp np dp] 34)).heap[w2.heap.size]? = some (.cells #[.int .i64 st, .int .i64 ru, .slice An n cn, .slice At_ lt ct, .slice Ap np cp] 31 (0, 0)) ∧ ((w2.alloc (.cells #[.int .i64 st, .int .i64 ru, .slice An n cn, .slice At_ lt ct, .slice Ap np cp] 31)).alloc (.cells #[.int .i64 st, .int .i64 ru, .slice Bn n dn, .slice Bt lt dt, .slice Bp np dp] 34)).heap[w2.heap.size + 1]? = some (.cells #[.int .i64 st, .int .i64 ru, .slice Bn n dn, .slice Bt lt dt, .slice Bp np dp] 34 (0, 0)))
  generalize hV : World.alloc (World.alloc w2 _) _ = V
  rw [hV] at HBX
  clear hV
  have HCP := Lib.hid (fun (w : World) (h : Below V.heap.size V w) => (HV2.out.under (HBX.out.1.trans (h.mono HBX.out.1.size))))
  have HCU := Lib.hid (fun (w : World) (h : Below V.heap.size V w) => (HU2.out.under (HBX.out.1.trans (h.mono HBX.out.1.size))))
  have hV1 := heap_alloc_new V (.cells #[.int .i64 0] 3)
  have hb1 := (Below.refl V.heap.size V).alloc (Nat.le_refl _) (.cells #[.int .i64 0] 3)
  obtain ⟨ab, hab⟩ : ∃ ab, ab = V.heap.size := ⟨_, rfl⟩
  have hV1z : (V.alloc (.cells #[.int .i64 0] 3)).heap.size = ab + 1 := by rw [hab]; simp
  go_upto_region 5 with fail
  rw [← hab]
  generalize hV1e : V.alloc (.cells #[.int .i64 0] 3) = V1 at *
  have hxu := (hb1.block _ (Gn.heap_lt HBX.out.2.2)).trans HBX.out.2.2
  have q0 := cell_of_row _ _ 0 _ _ (0, 0) hxu
  have q1 := cell_of_row _ _ 1 _ _ (0, 0) hxu
  have q2 := cell_of_row _ _ 2 _ _ (0, 0) hxu
  have q3 := cell_of_row _ _ 3 _ _ (0, 0) hxu
  have q4 := cell_of_row _ _ 4 _ _ (0, 0) hxu
  obtain ⟨hf1, hf2, hf3, hf4, hf5, hf6, hf7⟩ := Tr.made_few HMD.out
  have HBW := Lib.hid (HB2.out.trans (HBX.out.1.mono HB2.out.size))
  have hWV : W.heap.size ≤ V.heap.size := HBW.out.size
  have hgr := Tr.grown_any g ⟨by omega, by omega, hf3⟩ cs HQM.out 62 V1 ab 0 (st : Int) _ _
    ((HCU.out V (Below.refl _ _)).keep hb1.size fun r hr hrz => ⟨by rw [hab]; exact hrz, fun j => hb1.cell (p := ⟨r, j, none⟩) hrz⟩) ((HQC.out V1 ab (HBW.out.trans (hb1.mono hWV)) (by omega))) (by rw [hab]; exact hV1) (by omega) (by omega) (by omega)
  obtain ⟨GT, hGT⟩ : ∃ GT, GT = grownT g cs 62 (st : Int) 0 := ⟨_, rfl⟩
  rw [← hGT] at hgr
  have HGR := Lib.hid hgr
  have HB1 := Lib.hid hb1
  have HGT := Lib.hid hGT
  have HAB := Lib.hid hab
  have HV1Z := Lib.hid hV1z
  clear hgr hb1 hV1 hxu hGT hab hV1z hV1e hWV
  rcases GT with _ | ⟨t, k9⟩
  · go_wp2_with (go_at_call 31; refine HGR.out.mono ?_; rintro e w3 ⟨hs3, n3, A3, m3, c3, rfl⟩; have HS3 := Lib.hid hs3; clear hs3)
    refine bodyPost_ret (results_tmp rfl _ _ _) rfl ?_
    have h9 : Below ab V1 w3 := HS3.out.below (Nat.le_refl _) (by have := HV1Z.out; omega)
    have hWV : W.heap.size ≤ ab := by rw [HAB.out]; exact HBW.out.size
    exact ⟨rfl, HBW.out.trans ((HB1.out.trans ((h9.mono (by rw [HAB.out]; exact Nat.le_refl _)).alloc (by rw [← HAB.out]; have := h9.size; have := HV1Z.out; omega) _)).mono HBW.out.size)⟩
  have hgo := Tr.grown_ok hf3 cs 62 (st : Int) 0 t k9 (by omega) (by omega) HGT.out.symm
  obtain ⟨_, hk61, hfit, hroot, hnod⟩ := hgo
  have hnl : nodesT t ≤ 428 := by omega
  have hsm : SmT t := smT_of t (by omega)
  have HFI := Lib.hid hfit
  have HRO := Lib.hid hroot
  have HSM := Lib.hid hsm
  have HIN := Lib.hid (Tr.fits_in hfit (by omega))
  clear hfit hroot hsm hnod
  go_upto_region 8 with (go_at_call 31; refine HGR.out.mono ?_; rintro e w3 ⟨hs3, x3, y3, rfl, ht3, ha3⟩; obtain ⟨nx, Ax, mx, cx, rfl, rfl⟩ := ht3.form; have HS3 := Lib.hid hs3; have HT3 := Lib.hid ht3; clear hs3 ht3 ha3 q0 q1 q2 q3 q4)
  have hS9 : Below V.heap.size V w3 := HB1.out.trans ((HS3.out.below (B := V.heap.size) (by rw [HAB.out]; exact Nat.le_refl _) (by have := HB1.out.size; exact this)))
  have hw3 := hS9.size
  have hx4 := heap_alloc_new w3 (.cells #[.int .i64 nx, .slice Ax mx cx] 39)
  have hb4 := (Below.refl w3.heap.size w3).alloc (Nat.le_refl _) (.cells #[.int .i64 nx, .slice Ax mx cx] 39)
  have hV4 := hS9.alloc hw3 (.cells #[.int .i64 nx, .slice Ax mx cx] 39)
  have ht4 := HT3.out.under hb4
  obtain ⟨tb, htb⟩ : ∃ tb, tb = w3.heap.size := ⟨_, rfl⟩
  rw [← htb] at hx4
  generalize hw4 : w3.alloc (.cells #[.int .i64 nx, .slice Ax mx cx] 39) = w4 at *
  rw [← htb]
  have HT4 := Lib.hid ht4
  have HX4 := Lib.hid hx4
  have HV4 := Lib.hid hV4
  clear hw4 hb4 hx4 hV4 ht4 hS9 htb hw3
  have HMK := Lib.hid (fun (w' : World) (b : Below w4.heap.size w4 w') => show (fun w' : World => w'.cell? ⟨w2.heap.size, 0, none⟩ = some (.int .i64 st) ∧ w'.cell? ⟨w2.heap.size, 1, none⟩ = some (.int .i64 ru) ∧ w'.cell? ⟨w2.heap.size, 2, none⟩ = some (.slice An n cn) ∧ w'.cell? ⟨w2.heap.size, 3, none⟩ = some (.slice At_ lt ct) ∧ w'.cell? ⟨w2.heap.size, 4, none⟩ = some (.slice Ap np cp) ∧ w'.cell? ⟨tb, 0, none⟩ = some (.int .i64 nx) ∧ w'.cell? ⟨tb, 1, none⟩ = some (.slice Ax mx cx)) w' from (by
    have hxp := ((HV4.out.trans (b.mono HV4.out.size)).block _ (Gn.heap_lt HBX.out.2.1)).trans HBX.out.2.1
    have hxt := (b.block _ (Gn.heap_lt HX4.out)).trans HX4.out
    exact ⟨cell_of_row _ _ 0 _ _ (0, 0) hxp, cell_of_row _ _ 1 _ _ (0, 0) hxp, cell_of_row _ _ 2 _ _ (0, 0) hxp, cell_of_row _ _ 3 _ _ (0, 0) hxp, cell_of_row _ _ 4 _ _ (0, 0) hxp, cell_of_row _ _ 0 _ _ (0, 0) hxt, cell_of_row _ _ 1 _ _ (0, 0) hxt⟩))
  have HPG := Lib.hid (fun (w' : World) (b : Below w4.heap.size w4 w') => HCP.out w' (HV4.out.trans (b.mono HV4.out.size)))
  have HTR := Lib.hid (fun (w' : World) (b : Below w4.heap.size w4 w') => HT4.out.under b)
  have hsound := HSD.out
  have HPUT := Lib.hid (fun (w' : World) (b : Below w4.heap.size w4 w') => Tr.putt_any HSM.out (by omega) _ w' _ _ (HTR.out w' b))
  have HGET := Lib.hid (fun (w' : World) (b : Below w4.heap.size w4 w') => (Tr.get_tree g HFT.out hf6 (side_len HMD.out) _ w' _ ⟨(putT t).toArray⟩ (by
      have h1 := Tr.pbs9 (Tr.preT t)
      rw [Tr.preT_len, ← Tr.put_pre] at h1
      show (putT t).toArray.size ≤ _
      rw [List.size_toArray]
      omega) (HPG.out w' b)).mono fun e w5 h => show ∃ (n5 : Int) (A5 : Option Addr) (m5 c5 : Nat), e = .returned (.tuple #[.agg #[.int .i64 n5, .slice A5 m5 c5], .int .i64 0]) ∧ TrAt (fun r => w'.heap.size ≤ r) w5 t (.int .i64 n5) (.slice A5 m5 c5) ∧ Below w'.heap.size w' w5 from (by
    have e1 : Oct.bs (⟨(putT t).toArray⟩ : ByteArray) = putT t := by simp [Oct.bs]
    rw [e1, get_is HMD.out hsound HFI.out (by omega)] at h
    obtain ⟨⟨x, y, h1, h2⟩, h3⟩ := h
    obtain ⟨n5, A5, m5, c5, rfl, rfl⟩ := h2.form
    exact ⟨n5, A5, m5, c5, h1, h2, h3⟩))
  clear hsound
  go_cut [10, 11] from 35 to 41 (fun s10 s11 wx => ∃ (p10 : Nat) (n5 : Int) (A5 : Option Addr) (m5 c5 : Nat), s10 = .pointer (some ⟨p10, 0, none⟩) ∧ s11 = .int .i64 0 ∧ Below w4.heap.size w4 wx ∧ wx.heap[p10]? = some (.cells #[.int .i64 n5, .slice A5 m5 c5] 39 (0, 0)) ∧ TrAt (fun r => w4.heap.size ≤ r) wx t (.int .i64 n5) (.slice A5 m5 c5))
  case first =>
    refine wp_region_noPanic ?_
    refine wp_region_held_drew (S := (fun w' : World => w'.cell? ⟨w2.heap.size, 0, none⟩ = some (.int .i64 st) ∧ w'.cell? ⟨w2.heap.size, 1, none⟩ = some (.int .i64 ru) ∧ w'.cell? ⟨w2.heap.size, 2, none⟩ = some (.slice An n cn) ∧ w'.cell? ⟨w2.heap.size, 3, none⟩ = some (.slice At_ lt ct) ∧ w'.cell? ⟨w2.heap.size, 4, none⟩ = some (.slice Ap np cp) ∧ w'.cell? ⟨tb, 0, none⟩ = some (.int .i64 nx) ∧ w'.cell? ⟨tb, 1, none⟩ = some (.slice Ax mx cx))) (by kernel_rfl) ?_ (fun hHeld => ?_)
    · exact HMK.out _ (Gn.below_drew (Below.refl _ _))
    refine wpAnyH_take (i := 0) (v := ?_) rfl (by kernel_rfl) (by kernel_rfl) (by kernel_rfl) (fun _ _ _ h => h) (Or.inl ⟨by rfl, ?_⟩) (by assumption) ?_
    rotate_left
    · intro w hSw
      try dsimp only at hSw
      go_simp
      try with_reducible rfl
    try simp only [Act.put, List.setIfInBounds_toArray, List.set_cons_zero, List.set_cons_succ]
    refine wpAnyH_take (i := 1) (v := ?_) rfl (by kernel_rfl) (by kernel_rfl) (by kernel_rfl) (fun _ _ _ h => h) (Or.inl ⟨by rfl, ?_⟩) (by assumption) ?_
    rotate_left
    · intro w hSw
      try dsimp only at hSw
      go_simp
      try with_reducible rfl
    try simp only [Act.put, List.setIfInBounds_toArray, List.set_cons_zero, List.set_cons_succ]
    refine wpAnyH_ready (rs := [2, 7]) (by kernel_rfl) (by simp) ?_
    refine AllReadyH.cons rfl (fun K hK => ?_) ?_
    · go_simp
      go_at_call 25
      refine (HPUT.out _ (by first | exact Gn.below_drew (Below.refl _ _) | exact (Gn.below_drew (Below.refl _ _)).alloc (by simp) _ | exact Gn.below_drew ((Below.refl _ _).alloc (Nat.le_refl _) _))).mono ?_
      rintro e w5 ⟨rfl, hb5⟩
      have HC5 := Lib.hid (show Below w4.heap.size w4 w5 from ⟨hb5.os, hb5.tape, hb5.output, hb5.size, hb5.block⟩)
      clear hb5
      refine hK.out _ _ (HMK.out _ HC5.out) (fun hHeld => ?_)
      clear hK K
      try simp only [Act.put, List.setIfInBounds_toArray, List.set_cons_zero, List.set_cons_succ]
      refine wpAnyH_ready (rs := [3, 7]) (by kernel_rfl) (by simp) ?_
      refine AllReadyH.cons rfl (fun K hK => ?_) ?_
      · go_simp
        go_at_call 27
        refine (HGET.out _ HC5.out).mono ?_
        rintro e w6 ⟨n5, A5, m5, c5, rfl, ht6, hb6⟩
        have HC6 := Lib.hid (HC5.out.trans (hb6.mono HC5.out.size))
        have HT6 := Lib.hid (show TrAt (fun r => w5.heap.size ≤ r) w6 t _ _ from ht6)
        have HZ6 := Lib.hid hb6.size
        clear ht6 hb6
        refine hK.out _ _ (HMK.out _ HC6.out) (fun hHeld => ?_)
        clear hK K
        try simp only [Act.put, List.setIfInBounds_toArray, List.set_cons_zero, List.set_cons_succ]
        refine wpAnyH_take (i := 4) (v := ?_) rfl (by kernel_rfl) (by kernel_rfl) (by kernel_rfl) (fun _ _ _ h => h) (Or.inl ⟨by rfl, ?_⟩) (by assumption) ?_
        rotate_left
        · intro w hSw
          try dsimp only at hSw
          go_simp
          try with_reducible rfl
        try simp only [Act.put, List.setIfInBounds_toArray, List.set_cons_zero, List.set_cons_succ]
        refine wpAnyH_take (i := 5) (v := ?_) rfl (by kernel_rfl) (by kernel_rfl) (by kernel_rfl) (fun _ _ _ h => h) (Or.inl ⟨by rfl, ?_⟩) (by assumption) ?_
        rotate_left
        · intro w hSw
          try dsimp only at hSw
          go_simp
          try with_reducible rfl
        try simp only [Act.put, List.setIfInBounds_toArray, List.set_cons_zero, List.set_cons_succ]
        refine wpAnyH_take (i := 6) (v := ?_) rfl (by kernel_rfl) (by kernel_rfl) (by kernel_rfl) (fun _ _ _ h => h) (Or.inl ⟨by rfl, ?_⟩) (by assumption) ?_
        rotate_left
        · intro w hSw
          try dsimp only at hSw
          go_simp
          try with_reducible rfl
        try simp only [Act.put, List.setIfInBounds_toArray, List.set_cons_zero, List.set_cons_succ]
        refine wpAnyH_ready (rs := [7]) (by kernel_rfl) (by simp) ?_
        refine AllReadyH.cons rfl (fun K hK => ?_) AllReadyH.nil
        go_simp
        refine hK.out _ _ (HMK.out _ (HC6.out.alloc HC6.out.size _)) (fun hHeld => ?_)
        clear hK K
        try simp only [Act.put, List.setIfInBounds_toArray, List.set_cons_zero, List.set_cons_succ]
        refine wpAnyH_ready (rs := [8]) (by kernel_rfl) (by simp) ?_
        refine AllReadyH.cons rfl (fun K hK => ?_) AllReadyH.nil
        go_simp
        refine hK.out _ _ (HMK.out _ (HC6.out.alloc HC6.out.size _)) (fun hHeld => ?_)
        clear hK K
        try simp only [Act.put, List.setIfInBounds_toArray, List.set_cons_zero, List.set_cons_succ]
        refine wpAnyH_ready (rs := [9]) (by kernel_rfl) (by simp) ?_
        refine AllReadyH.cons rfl (fun K hK => ?_) AllReadyH.nil
        go_simp
        refine hK.out _ _ (hHeld) (fun hHeld => ?_)
        clear hK K
        try simp only [Act.put, List.setIfInBounds_toArray, List.set_cons_zero, List.set_cons_succ]
        refine wpAnyH_done (by kernel_rfl) ?_ _
        refine NoPanic.normal ?_
        go_wp2_with fail
        go_meet
        exact ⟨w6.heap.size, n5, A5, m5, c5, rfl, rfl, (HC6.out.alloc HC6.out.size _), heap_alloc_new w6 _, HT6.out.keep (by simp) fun r hr hrz => ⟨by have h2 : w5.heap.size ≤ r := hr; have := HC5.out.size; omega, fun j => Gn.cell_same (heap_alloc_old w6 _ hrz) j⟩⟩
      refine AllReadyH.cons rfl (fun K hK => ?_) AllReadyH.nil
      · go_simp
        refine hK.out _ _ (HMK.out _ (HC5.out.alloc HC5.out.size _)) (fun hHeld => ?_)
        clear hK K
        try simp only [Act.put, List.setIfInBounds_toArray, List.set_cons_zero, List.set_cons_succ]
        refine wpAnyH_ready (rs := [3]) (by kernel_rfl) (by simp) ?_
        refine AllReadyH.cons rfl (fun K hK => ?_) AllReadyH.nil
        go_simp
        go_at_call 27
        refine (HGET.out _ (HC5.out.alloc HC5.out.size _)).mono ?_
        rintro e w6 ⟨n5, A5, m5, c5, rfl, ht6, hb6⟩
        have HC6 := Lib.hid ((HC5.out.alloc HC5.out.size (.cells #[.int .i64 0, .slice none 0 0] 39)).trans (hb6.mono (HC5.out.alloc HC5.out.size (.cells #[.int .i64 0, .slice none 0 0] 39)).size))
        have hp6 := (hb6.block w5.heap.size (by simp)).trans (heap_alloc_new w5 (.cells #[.int .i64 0, .slice none 0 0] 39))
        have HT6 := Lib.hid (show TrAt (fun r => w5.heap.size + 1 ≤ r) w6 t _ _ from ht6.keep (Nat.le_refl _) fun r hr _ => ⟨by have h2 : (w5.alloc (.cells #[.int .i64 0, .slice none 0 0] 39)).heap.size ≤ r := hr; simp at h2; omega, fun _ => rfl⟩)
        have HP6 := Lib.hid hp6
        have k0 := cell_of_row _ _ 0 _ _ (0, 0) hp6
        have k1 := cell_of_row _ _ 1 _ _ (0, 0) hp6
        have kf0 := Gn.frozen_row hp6 0
        have kf1 := Gn.frozen_row hp6 1
        clear hp6
        have HZ6 := Lib.hid hb6.size
        clear ht6 hb6
        refine hK.out _ _ (HMK.out _ HC6.out) (fun hHeld => ?_)
        clear hK K
        try simp only [Act.put, List.setIfInBounds_toArray, List.set_cons_zero, List.set_cons_succ]
        refine wpAnyH_take (i := 4) (v := ?_) rfl (by kernel_rfl) (by kernel_rfl) (by kernel_rfl) (fun _ _ _ h => h) (Or.inl ⟨by rfl, ?_⟩) (by assumption) ?_
        rotate_left
        · intro w hSw
          try dsimp only at hSw
          go_simp
          try with_reducible rfl
        try simp only [Act.put, List.setIfInBounds_toArray, List.set_cons_zero, List.set_cons_succ]
        refine wpAnyH_take (i := 5) (v := ?_) rfl (by kernel_rfl) (by kernel_rfl) (by kernel_rfl) (fun _ _ _ h => h) (Or.inl ⟨by rfl, ?_⟩) (by assumption) ?_
        rotate_left
        · intro w hSw
          try dsimp only at hSw
          go_simp
          try with_reducible rfl
        try simp only [Act.put, List.setIfInBounds_toArray, List.set_cons_zero, List.set_cons_succ]
        refine wpAnyH_take (i := 6) (v := ?_) rfl (by kernel_rfl) (by kernel_rfl) (by kernel_rfl) (fun _ _ _ h => h) (Or.inl ⟨by rfl, ?_⟩) (by assumption) ?_
        rotate_left
        · intro w hSw
          try dsimp only at hSw
          go_simp
          try with_reducible rfl
        try simp only [Act.put, List.setIfInBounds_toArray, List.set_cons_zero, List.set_cons_succ]
        refine wpAnyH_ready (rs := [8]) (by kernel_rfl) (by simp) ?_
        refine AllReadyH.cons rfl (fun K hK => ?_) AllReadyH.nil
        go_simp
        refine hK.out _ _ (HMK.out _ ((HC6.out.setCell (p := ⟨w5.heap.size, 0, none⟩) (HC5.out.size) _).setCell (p := ⟨w5.heap.size, 1, none⟩) (HC5.out.size) _)) (fun hHeld => ?_)
        clear hK K
        try simp only [Act.put, List.setIfInBounds_toArray, List.set_cons_zero, List.set_cons_succ]
        refine wpAnyH_ready (rs := [9]) (by kernel_rfl) (by simp) ?_
        refine AllReadyH.cons rfl (fun K hK => ?_) AllReadyH.nil
        go_simp
        refine hK.out _ _ (hHeld) (fun hHeld => ?_)
        clear hK K
        try simp only [Act.put, List.setIfInBounds_toArray, List.set_cons_zero, List.set_cons_succ]
        refine wpAnyH_done (by kernel_rfl) ?_ _
        refine NoPanic.normal ?_
        go_wp2_with fail
        go_meet
        exact ⟨w5.heap.size, n5, A5, m5, c5, rfl, rfl, ((HC6.out.setCell (p := ⟨w5.heap.size, 0, none⟩) (HC5.out.size) _).setCell (p := ⟨w5.heap.size, 1, none⟩) (HC5.out.size) _), Tr.res_set HP6.out _ _, HT6.out.keep (by simp [World.setCell]) fun r hr _ => ⟨by have h2 : w5.heap.size + 1 ≤ r := hr; have := HC5.out.size; omega, fun j => Gn.cell_same ((Gn.set_keep _ 1 _ (by have h2 : w5.heap.size + 1 ≤ r := hr; omega)).trans (Gn.set_keep _ 0 _ (by have h2 : w5.heap.size + 1 ≤ r := hr; omega))) j⟩⟩
    refine AllReadyH.cons rfl (fun K hK => ?_) AllReadyH.nil
    · go_simp
      refine hK.out _ _ (HMK.out _ (by first | exact Gn.below_drew (Below.refl _ _) | exact (Gn.below_drew (Below.refl _ _)).alloc (by simp) _ | exact Gn.below_drew ((Below.refl _ _).alloc (Nat.le_refl _) _))) (fun hHeld => ?_)
      clear hK K
      try simp only [Act.put, List.setIfInBounds_toArray, List.set_cons_zero, List.set_cons_succ]
      refine wpAnyH_ready (rs := [2]) (by kernel_rfl) (by simp) ?_
      refine AllReadyH.cons rfl (fun K hK => ?_) AllReadyH.nil
      go_simp
      go_at_call 25
      refine (HPUT.out _ (by first | exact Gn.below_drew (Below.refl _ _) | exact (Gn.below_drew (Below.refl _ _)).alloc (by simp) _ | exact Gn.below_drew ((Below.refl _ _).alloc (Nat.le_refl _) _))).mono ?_
      rintro e w5 ⟨rfl, hb5⟩
      have hp5 := (hb5.block w4.heap.size (by simp)).trans (heap_alloc_new w4 (.cells #[.int .i64 0, .slice none 0 0] 39))
      have HC5 := Lib.hid (show Below w4.heap.size w4 w5 from (show Below w4.heap.size w4 (w4.alloc (.cells #[.int .i64 0, .slice none 0 0] 39)) from (Below.refl _ _).alloc (Nat.le_refl _) _).trans ⟨hb5.os, hb5.tape, hb5.output, by have := hb5.size; simp at this ⊢; omega, fun q hq => hb5.block q (by simp; omega)⟩)
      have HP5 := Lib.hid hp5
      clear hp5
      clear hb5
      refine hK.out _ _ (HMK.out _ HC5.out) (fun hHeld => ?_)
      clear hK K
      try simp only [Act.put, List.setIfInBounds_toArray, List.set_cons_zero, List.set_cons_succ]
      refine wpAnyH_ready (rs := [3]) (by kernel_rfl) (by simp) ?_
      refine AllReadyH.cons rfl (fun K hK => ?_) AllReadyH.nil
      go_simp
      go_at_call 27
      refine (HGET.out _ HC5.out).mono ?_
      rintro e w6 ⟨n5, A5, m5, c5, rfl, ht6, hb6⟩
      have HC6 := Lib.hid (HC5.out.trans (hb6.mono HC5.out.size))
      have hp6 := (hb6.block w4.heap.size (Gn.heap_lt HP5.out)).trans HP5.out
      have HT6 := Lib.hid (show TrAt (fun r => w4.heap.size + 1 ≤ r) w6 t _ _ from ht6.keep (Nat.le_refl _) fun r hr _ => ⟨by have h1 := Gn.heap_lt HP5.out; have h2 : w5.heap.size ≤ r := hr; omega, fun _ => rfl⟩)
      have HP6 := Lib.hid hp6
      have k0 := cell_of_row _ _ 0 _ _ (0, 0) hp6
      have k1 := cell_of_row _ _ 1 _ _ (0, 0) hp6
      have kf0 := Gn.frozen_row hp6 0
      have kf1 := Gn.frozen_row hp6 1
      clear hp6
      have HZ6 := Lib.hid hb6.size
      clear ht6 hb6
      refine hK.out _ _ (HMK.out _ HC6.out) (fun hHeld => ?_)
      clear hK K
      try simp only [Act.put, List.setIfInBounds_toArray, List.set_cons_zero, List.set_cons_succ]
      refine wpAnyH_take (i := 4) (v := ?_) rfl (by kernel_rfl) (by kernel_rfl) (by kernel_rfl) (fun _ _ _ h => h) (Or.inl ⟨by rfl, ?_⟩) (by assumption) ?_
      rotate_left
      · intro w hSw
        try dsimp only at hSw
        go_simp
        try with_reducible rfl
      try simp only [Act.put, List.setIfInBounds_toArray, List.set_cons_zero, List.set_cons_succ]
      refine wpAnyH_take (i := 5) (v := ?_) rfl (by kernel_rfl) (by kernel_rfl) (by kernel_rfl) (fun _ _ _ h => h) (Or.inl ⟨by rfl, ?_⟩) (by assumption) ?_
      rotate_left
      · intro w hSw
        try dsimp only at hSw
        go_simp
        try with_reducible rfl
      try simp only [Act.put, List.setIfInBounds_toArray, List.set_cons_zero, List.set_cons_succ]
      refine wpAnyH_take (i := 6) (v := ?_) rfl (by kernel_rfl) (by kernel_rfl) (by kernel_rfl) (fun _ _ _ h => h) (Or.inl ⟨by rfl, ?_⟩) (by assumption) ?_
      rotate_left
      · intro w hSw
        try dsimp only at hSw
        go_simp
        try with_reducible rfl
      try simp only [Act.put, List.setIfInBounds_toArray, List.set_cons_zero, List.set_cons_succ]
      refine wpAnyH_ready (rs := [8]) (by kernel_rfl) (by simp) ?_
      refine AllReadyH.cons rfl (fun K hK => ?_) AllReadyH.nil
      go_simp
      refine hK.out _ _ (HMK.out _ ((HC6.out.setCell (p := ⟨w4.heap.size, 0, none⟩) (Nat.le_refl _) _).setCell (p := ⟨w4.heap.size, 1, none⟩) (Nat.le_refl _) _)) (fun hHeld => ?_)
      clear hK K
      try simp only [Act.put, List.setIfInBounds_toArray, List.set_cons_zero, List.set_cons_succ]
      refine wpAnyH_ready (rs := [9]) (by kernel_rfl) (by simp) ?_
      refine AllReadyH.cons rfl (fun K hK => ?_) AllReadyH.nil
      go_simp
      refine hK.out _ _ (hHeld) (fun hHeld => ?_)
      clear hK K
      try simp only [Act.put, List.setIfInBounds_toArray, List.set_cons_zero, List.set_cons_succ]
      refine wpAnyH_done (by kernel_rfl) ?_ _
      refine NoPanic.normal ?_
      go_wp2_with fail
      go_meet
      exact ⟨w4.heap.size, n5, A5, m5, c5, rfl, rfl, ((HC6.out.setCell (p := ⟨w4.heap.size, 0, none⟩) (Nat.le_refl _) _).setCell (p := ⟨w4.heap.size, 1, none⟩) (Nat.le_refl _) _), Tr.res_set HP6.out _ _, HT6.out.keep (by simp [World.setCell]) fun r hr _ => ⟨by have h2 : w4.heap.size + 1 ≤ r := hr; have := HC5.out.size; omega, fun j => Gn.cell_same ((Gn.set_keep _ 1 _ (by have h2 : w4.heap.size + 1 ≤ r := hr; omega)).trans (Gn.set_keep _ 0 _ (by have h2 : w4.heap.size + 1 ≤ r := hr; omega))) j⟩⟩
  case rest =>
    obtain ⟨p10, n5, A5, m5, c5, rfl, rfl, hb5, hx5, ht5⟩ := hcut
    clear HPUT HGET
    have HB5 := Lib.hid hb5
    have HX5 := Lib.hid hx5
    have HT5 := Lib.hid ht5
    have HMX := Lib.hid (fun (w' : World) (b : Below wc.heap.size wc w') => HMK.out w' (HB5.out.trans (b.mono HB5.out.size)))
    obtain ⟨ys, hys⟩ : ∃ ys, ys = yieldT t := ⟨_, rfl⟩
    obtain ⟨ps, hps⟩ : ∃ ps, ps = prodT t := ⟨_, rfl⟩
    have hcnt := Tr.count_tree t HFI.out
    rw [← hys, ← hps] at hcnt
    have hpl := play_root HMD.out HFI.out (by rw [HRO.out, HST.out]) (by omega)
    rw [← hys, ← hps, HST.out] at hpl
    have HPL := Lib.hid hpl
    have HLE := Lib.hid (fun (w' : World) (b : Below w4.heap.size w4 w') => (Tr.leftmost_any HSM.out (by omega) _ w' _ _ (HTR.out w' b)).mono fun e w9 h => show ∃ (A7 : Option Addr) (c7 : Nat), e = .returned (.slice A7 ps.length c7) ∧ IntsAt (fun r => w'.heap.size ≤ r) w9 ps (.slice A7 ps.length c7) ∧ Below w'.heap.size w' w9 from (by
      rw [← hps] at h
      obtain ⟨v, h1, h2, h3⟩ := h
      obtain ⟨A7, c7, rfl⟩ := h2.form
      exact ⟨A7, c7, h1, h2, h3⟩))
    have HYI := Lib.hid (fun (w' : World) (b : Below w4.heap.size w4 w') => (Tr.yieldt_any HSM.out HIN.out (by omega) _ w' _ _ (HTR.out w' b)).mono fun e w9 h => show ∃ (A7 : Option Addr) (c7 : Nat), e = .returned (.slice A7 ys.length c7) ∧ IntsAt (fun r => w'.heap.size ≤ r) w9 ys (.slice A7 ys.length c7) ∧ Below w'.heap.size w' w9 from (by
      rw [← hys] at h
      obtain ⟨v, h1, h2, h3⟩ := h
      obtain ⟨A7, c7, rfl⟩ := h2.form
      exact ⟨A7, c7, h1, h2, h3⟩))
    have hpsl : ps.length ≤ 428 := by omega
    have hysl : ys.length ≤ 428 := by omega
    have HRP := Lib.hid (fun (w' : World) (b : Below w4.heap.size w4 w') (Q : Nat → Prop) (v7 : Value) (hi : IntsAt Q w' ps v7) => (Tr.replay_any g HMD.out (st : Int) ps (by omega) _ Q w' _ v7 (HPG.out w' b) hi).mono fun e w9 h => show ∃ (A8 : Option Addr) (c8 : Nat), e = .returned (.tuple #[.slice A8 ys.length c8, .int .i64 0]) ∧ IntsAt (fun r => w'.heap.size ≤ r) w9 (ys.map symT) (.slice A8 ys.length c8) ∧ Below w'.heap.size w' w9 from (by
      rw [HPL.out] at h
      obtain ⟨⟨v, h1, h2⟩, h3⟩ := h
      obtain ⟨A8, c8, rfl⟩ := h2.form
      rw [List.length_map] at h1 h2
      exact ⟨A8, c8, h1, h2, h3⟩))
    have HCK := Lib.hid (fun (w' : World) (b : Below w4.heap.size w4 w') => (Tr.check_any g HFT.out hf6 HSM.out _ _ w' _ _ _ (HTR.out w' b) (HPG.out w' b)).mono fun e w9 h => show e = .returned (.bool true) ∧ Below w'.heap.size w' w9 from (by
      have e1 : Tr.checkB g t = true := by unfold Tr.checkB; rw [HSD.out, HFI.out]; rfl
      rw [e1] at h
      exact h))
    have HSA := Lib.hid (fun (w' : World) (b : Below wc.heap.size wc w') => (Tr.samet_any HSM.out t _ _ w' _ _ _ _ (HTR.out w' (HB5.out.trans (b.mono HB5.out.size))) (HT5.out.under b)).mono fun e w9 h => show e = .returned (.bool true) ∧ Below w'.heap.size w' w9 from (by
      rw [Tr.same_self] at h
      exact h))
    have HSZ := Lib.hid (fun (w' : World) (b : Below w4.heap.size w4 w') => Tr.size_any HSM.out (fun r => r < w'.heap.size) w' _ _ ((HTR.out w' b).keep (Nat.le_refl _) fun r _ hr => ⟨hr, fun _ => rfl⟩) (fun r hr => hr) (by omega))
    have htl := Tr.text_len HMD.out t
    have HTX := Lib.hid (fun (w' : World) (b : Below w4.heap.size w4 w') => (Tr.text_any g HFT.out hf6 (fun _ => hf7) HSM.out (by omega) _ _ w' _ _ _ (HTR.out w' b) (HPG.out w' b)).mono fun e w9 h => show ∃ tx : ByteArray, e = .returned (.string tx) ∧ ¬ tx.toList = [] ∧ Below w'.heap.size w' w9 from (by
      have e1 : Tr.checkB g t = true := by unfold Tr.checkB; rw [HSD.out, HFI.out]; rfl
      refine ⟨_, h.1, ?_, h.2⟩
      unfold Tr.textE
      rw [if_pos e1]
      intro e9
      have h9 : (Tr.textT g t).length = 0 := by
        have e8 : (⟨(Tr.textT g t).toArray⟩ : ByteArray).toList = Tr.textT g t := by
          rw [ByteArray.toList_eq]
        rw [e8] at e9
        rw [e9]; rfl
      omega))
    have hdn := Tr.deep_le t
    have HYS := Lib.hid hys
    have HIY := Lib.hid (show ∀ y ∈ ys, IntKind.i64.wrap (-1 - y) = -1 - y from (by
      intro y hy
      have h9 := Tr.yield_neg t HFI.out (symT y) (by rw [← hys]; exact List.mem_map_of_mem hy)
      have h10 := Tr.yield_low t HFI.out y (by rw [← hys]; exact hy)
      unfold symT at h9
      exact IntWalk.i64_in _ (by omega)))
    obtain ⟨ly, hly⟩ : ∃ ly, ly = ys.length := ⟨_, rfl⟩
    obtain ⟨lp, hlp⟩ : ∃ lp, lp = ps.length := ⟨_, rfl⟩
    obtain ⟨nn, hnn⟩ : ∃ nn, nn = nodesT t := ⟨_, rfl⟩
    obtain ⟨dd, hdd⟩ : ∃ dd, dd = deepT t := ⟨_, rfl⟩
    rw [← hly] at HYI HRP hysl hcnt
    rw [← hlp] at HLE hpsl hcnt
    rw [← hnn] at HSZ hcnt hnl hdn
    rw [← hdd] at HSZ hdn
    have HLY := Lib.hid hly
    clear hys hps hly hlp hnn hdd hpl htl hb5 hx5 ht5
    go_upto_region 9 with fail
    refine wp_region_noPanic ?_
    refine wp_region_held_drew (S := (fun w' : World => w'.cell? ⟨w2.heap.size, 0, none⟩ = some (.int .i64 st) ∧ w'.cell? ⟨w2.heap.size, 1, none⟩ = some (.int .i64 ru) ∧ w'.cell? ⟨w2.heap.size, 2, none⟩ = some (.slice An n cn) ∧ w'.cell? ⟨w2.heap.size, 3, none⟩ = some (.slice At_ lt ct) ∧ w'.cell? ⟨w2.heap.size, 4, none⟩ = some (.slice Ap np cp) ∧ w'.cell? ⟨tb, 0, none⟩ = some (.int .i64 nx) ∧ w'.cell? ⟨tb, 1, none⟩ = some (.slice Ax mx cx))) (by kernel_rfl) ?_ (fun hHeld => ?_)
    · exact HMX.out _ (Gn.below_drew (Below.refl _ _))
    refine wpAnyH_take (i := 0) (v := ?_) rfl (by kernel_rfl) (by kernel_rfl) (by kernel_rfl) (fun _ _ _ h => h) (Or.inl ⟨by rfl, ?_⟩) (by assumption) ?_
    rotate_left
    · intro w hSw
      try dsimp only at hSw
      go_simp
      try with_reducible rfl
    try simp only [Act.put, List.setIfInBounds_toArray, List.set_cons_zero, List.set_cons_succ]
    refine wpAnyH_take (i := 1) (v := ?_) rfl (by kernel_rfl) (by kernel_rfl) (by kernel_rfl) (fun _ _ _ h => h) (Or.inl ⟨by rfl, ?_⟩) (by assumption) ?_
    rotate_left
    · intro w hSw
      try dsimp only at hSw
      go_simp
      try with_reducible rfl
    try simp only [Act.put, List.setIfInBounds_toArray, List.set_cons_zero, List.set_cons_succ]
    refine wpAnyH_take (i := 2) (v := ?_) rfl (by kernel_rfl) (by kernel_rfl) (by kernel_rfl) (fun _ _ _ h => h) (Or.inl ⟨by rfl, ?_⟩) (by assumption) ?_
    rotate_left
    · intro w hSw
      try dsimp only at hSw
      go_simp
      try with_reducible rfl
    try simp only [Act.put, List.setIfInBounds_toArray, List.set_cons_zero, List.set_cons_succ]
    refine wpAnyH_take (i := 3) (v := ?_) rfl (by kernel_rfl) (by kernel_rfl) (by kernel_rfl) (fun _ _ _ h => h) (Or.inl ⟨by rfl, ?_⟩) (by assumption) ?_
    rotate_left
    · intro w hSw
      try dsimp only at hSw
      go_simp
      try with_reducible rfl
    try simp only [Act.put, List.setIfInBounds_toArray, List.set_cons_zero, List.set_cons_succ]
    refine wpAnyH_ready (rs := [4]) (by kernel_rfl) (by simp) ?_
    refine AllReadyH.cons rfl (fun K hK => ?_) AllReadyH.nil
    go_simp
    go_at_call 23
    refine (HLE.out _ (by first | exact Gn.below_drew HB5.out | exact HB5.out)).mono ?_
    rintro e w7 ⟨A7, c7, rfl, hi7, hb7⟩
    have HB7 := Lib.hid (show Below wc.heap.size wc w7 from ⟨hb7.os, hb7.tape, hb7.output, hb7.size, hb7.block⟩)
    have HI7 := Lib.hid hi7
    clear hb7 hi7
    refine hK.out _ _ (HMX.out _ HB7.out) (fun hHeld => ?_)
    clear hK K
    try simp only [Act.put, List.setIfInBounds_toArray, List.set_cons_zero, List.set_cons_succ]
    refine wpAnyH_ready (rs := [5]) (by kernel_rfl) (by simp) ?_
    refine AllReadyH.cons rfl (fun K hK => ?_) AllReadyH.nil
    go_simp
    go_at_call 29
    refine (HRP.out _ (HB5.out.trans (HB7.out.mono HB5.out.size)) _ _ HI7.out).mono ?_
    rintro e w8 ⟨A8, c8, rfl, hi8, hb8⟩
    have HB8 := Lib.hid (HB7.out.trans (hb8.mono HB7.out.size))
    have HI8 := Lib.hid hi8
    clear hb8 hi8
    refine hK.out _ _ (HMX.out _ HB8.out) (fun hHeld => ?_)
    clear hK K
    try simp only [Act.put, List.setIfInBounds_toArray, List.set_cons_zero, List.set_cons_succ]
    refine wpAnyH_take (i := 6) (v := ?_) rfl (by kernel_rfl) (by kernel_rfl) (by kernel_rfl) (fun _ _ _ h => h) (Or.inl ⟨by rfl, ?_⟩) (by assumption) ?_
    rotate_left
    · intro w hSw
      try dsimp only at hSw
      go_simp
      try with_reducible rfl
    try simp only [Act.put, List.setIfInBounds_toArray, List.set_cons_zero, List.set_cons_succ]
    refine wpAnyH_take (i := 7) (v := ?_) rfl (by kernel_rfl) (by kernel_rfl) (by kernel_rfl) (fun _ _ _ h => h) (Or.inl ⟨by rfl, ?_⟩) (by assumption) ?_
    rotate_left
    · intro w hSw
      try dsimp only at hSw
      go_simp
      try with_reducible rfl
    try simp only [Act.put, List.setIfInBounds_toArray, List.set_cons_zero, List.set_cons_succ]
    refine wpAnyH_take (i := 8) (v := ?_) rfl (by kernel_rfl) (by kernel_rfl) (by kernel_rfl) (fun _ _ _ h => h) (Or.inl ⟨by rfl, ?_⟩) (by assumption) ?_
    rotate_left
    · intro w hSw
      try dsimp only at hSw
      go_simp
      try with_reducible rfl
    try simp only [Act.put, List.setIfInBounds_toArray, List.set_cons_zero, List.set_cons_succ]
    refine wpAnyH_ready (rs := [9]) (by kernel_rfl) (by simp) ?_
    refine AllReadyH.cons rfl (fun K hK => ?_) AllReadyH.nil
    go_simp
    refine hK.out _ _ (hHeld) (fun hHeld => ?_)
    clear hK K
    try simp only [Act.put, List.setIfInBounds_toArray, List.set_cons_zero, List.set_cons_succ]
    refine wpAnyH_ready (rs := [10]) (by kernel_rfl) (by simp) ?_
    refine AllReadyH.cons rfl (fun K hK => ?_) AllReadyH.nil
    go_simp
    refine hK.out _ _ (hHeld) (fun hHeld => ?_)
    clear hK K
    try simp only [Act.put, List.setIfInBounds_toArray, List.set_cons_zero, List.set_cons_succ]
    refine wpAnyH_done (by kernel_rfl) ?_ _
    refine NoPanic.normal ?_
    clear hHeld
    have s8 := HMX.out _ HB8.out
    obtain ⟨_, _, _, _, _, t0, t1⟩ := s8
    go_upto_region 11 with (go_at_call 19; refine (HYI.out _ (HB5.out.trans (HB8.out.mono HB5.out.size))).mono ?_; rintro e w9 ⟨A9, c9, rfl, hi9, hb9⟩; have HB9 := Lib.hid (HB8.out.trans (hb9.mono HB8.out.size)); have HI9 := Lib.hid hi9; have HI8' := Lib.hid (HI8.out.under hb9); clear hb9 hi9)
    clear t0 t1
    obtain ⟨p0, p1, p2, p3, p4, t0, t1⟩ := HMX.out _ HB9.out
    have e00 : ((0 : Int) != 0) = false := by decide
    have ell : ((ly : Int) != (ly : Int)) = false := bne_self_eq_false _
    go_upto_region 13 with (first | (go_at_call 14; refine (HCK.out _ (HB5.out.trans (HB9.out.mono HB5.out.size))).mono ?_; rintro e wa ⟨rfl, hba⟩; have HBA := Lib.hid (HB9.out.trans (hba.mono HB9.out.size)); have HBA9 := Lib.hid hba; obtain ⟨_, _, _, _, _, ta0, ta1⟩ := HMX.out _ HBA.out; have hxa := (HBA.out.block _ (Gn.heap_lt HX5.out)).trans HX5.out; have ua0 := cell_of_row _ _ 0 _ _ (0, 0) hxa; have ua1 := cell_of_row _ _ 1 _ _ (0, 0) hxa; clear hba hxa) | (go_at_call 16; refine (HSA.out _ HBA.out).mono ?_; rintro e wb ⟨rfl, hbb⟩; have HBB2 := Lib.hid (HBA.out.trans (hbb.mono HBA.out.size)); have HB9B := Lib.hid (HBA9.out.trans (hbb.mono HBA9.out.size)); clear hbb ta0 ta1 ua0 ua1))
    have HS9 := Lib.hid (HI8'.out.under HB9B.out)
    have HY9 := Lib.hid (HI9.out.under HB9B.out)
    clear p0 p1 p2 p3 p4 t0 t1 e00 ell
    go_upto_block 0 with fail
    go_wp2_with fail
    go_loopw [15] (fun x wr => ∃ i : Nat, i ≤ ly ∧ x = .int .i64 i ∧ Below wb.heap.size wb wr) (fun x _ => ly - (intOf x).toNat)
    case atStart => exact ⟨0, Nat.zero_le _, rfl, Below.refl _ _⟩
    case round =>
      obtain ⟨i, hi, rfl, hbr⟩ := hrel
      have HBR := Lib.hid hbr
      have HBW2 := Lib.hid (HBB2.out.trans (hbr.mono HBB2.out.size))
      by_cases hil : i < ly
      · have hil2 : (i : Int) < (ly : Int) := by omega
        have hiy : i < ys.length := by rw [← HLY.out]; exact hil
        obtain ⟨A8', c8', b8, e8, _, h3, h4⟩ := HS9.out
        rw [List.length_map, ← HLY.out] at e8 h3
        injection e8 with e8a _ e8c
        subst e8a
        subst e8c
        obtain ⟨eA8, h8z, _⟩ := h3 (by omega)
        subst eA8
        have k8 := (hbr.cell (p := ⟨b8, i, none⟩) h8z).trans (h4 i (by rw [List.length_map]; exact hiy))
        rw [List.getElem_map] at k8
        obtain ⟨A9', c9', b9, e9, _, g3, g4⟩ := HY9.out
        rw [← HLY.out] at e9 g3
        injection e9 with e9a _ e9c
        subst e9a
        subst e9c
        obtain ⟨eA9, h9z, _⟩ := g3 (by omega)
        subst eA9
        have k9' := (hbr.cell (p := ⟨b9, i, none⟩) h9z).trans (g4 i hiy)
        have hwr := HIY.out ys[i] (List.getElem_mem hiy)
        obtain ⟨yv, hyv⟩ : ∃ yv, yv = ys[i] := ⟨_, rfl⟩
        rw [← hyv] at k8 k9' hwr
        have hsy : symT yv = -1 - yv := rfl
        rw [hsy] at k8
        have hne : ((-1 - yv) != (-1 - yv)) = false := bne_self_eq_false _
        clear h3 h4 g3 g4 hyv hsy hbr
        go_wp2_with fail
        go_quiet (fail)
        go_wp2_with fail
        go_roundw
        case rel => exact ⟨i + 1, by omega, by simp, Gn.below_drewN HBR.out _⟩
        case measure => simp [intOf]; omega
      · have hie : i = ly := by omega
        subst hie
        have hil2 : ¬ ((i : Nat) : Int) < ((i : Nat) : Int) := by omega
        clear hbr
        obtain ⟨p0, p1, p2, p3, p4, t0, t1⟩ := HMX.out _ HBW2.out
        have hw9 : IntKind.i64.wrap ((i : Int) + (lp : Int)) = (i : Int) + (lp : Int) := IntWalk.i64_in _ (by omega)
        have hn9 : ((nn : Int) == (i : Int) + (lp : Int)) = true := by rw [beq_iff_eq]; omega
        have hd9 : (dd : Int) ≤ (nn : Int) := by omega
        go_upto_region 19 with (go_at_call 11; refine (HSZ.out _ (HB5.out.trans (HBW2.out.mono HB5.out.size))).mono ?_; rintro e we ⟨rfl, hbe⟩; have HBE := Lib.hid (HBW2.out.trans (hbe.mono HBW2.out.size)); clear hbe p0 p1 p2 p3 p4 t0 t1)
        obtain ⟨p0, p1, p2, p3, p4, t0, t1⟩ := HMX.out _ HBE.out
        go_wp2_with (first | (go_at_call 23; refine (HLE.out _ (HB5.out.trans (HBE.out.mono HB5.out.size))).mono ?_; rintro e wf ⟨Af, cf, rfl, hif, hbf⟩; have HBF := Lib.hid (HBE.out.trans (hbf.mono HBE.out.size)); clear hif hbf; obtain ⟨f0, f1, f2, f3, f4, ft0, ft1⟩ := HMX.out _ HBF.out) | (go_at_call 15; refine (HTX.out _ (HB5.out.trans (HBF.out.mono HB5.out.size))).mono ?_; rintro e wg ⟨tx, rfl, htx, hbg⟩; have htx2 : tx.toList.isEmpty = false := (by cases h8 : tx.toList with | nil => exact absurd h8 htx | cons _ _ => rfl); have HBG := Lib.hid (HBF.out.trans (hbg.mono HBF.out.size)); clear hbg))
        refine bodyPost_ret (results_tmp rfl _ _ _) rfl ?_
        exact ⟨rfl, HBW.out.trans ((HV4.out.trans ((HB5.out.trans (HBG.out.mono HB5.out.size)).mono HV4.out.size)).mono HBW.out.size)⟩

end Go.Proofs.Ytjlppffkacimoaa.Fx
