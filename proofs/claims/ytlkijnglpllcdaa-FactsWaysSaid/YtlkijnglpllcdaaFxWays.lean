/-
  FactsWays: the program's answers and the document's are the same.
-/
import Derived.Test.YtlkijnglpllcdaaFxMadeW
import Derived.Test.YtlkijnglpllcdaaFxWaysM
namespace Go.Proofs.Ytlkijnglpllcdaa.Fx
open Go.RowKit
set_option maxRecDepth 100000
set_option linter.unusedSimpArgs false
set_option linter.unusedVariables false

set_option maxHeartbeats 8000000 in
theorem walk_ways (N T St : Int) (left : List Int) (right : List (List Int)) (W : World) (vl vr : Value) (hl : NumsIn W left vl) (hr : RowsIn W right vr) (hlm : left.length ≤ maxLen) (hrm : right.length ≤ maxLen) (hrm2 : ∀ r ∈ right, r.length ≤ maxLen) :
    Calls Try.prog 4 #[.agg #[.int .i64 N, .int .i64 T, .int .i64 St, vl, vr]] W fun e w' => e = .returned (.bool true) ∧ Below W.heap.size W w' := by
  have HM := Lib.hid (fun w (b : Below W.heap.size W w) => made_any N T St left right w vl vr (hl.under b) (hr.under b) hlm hrm hrm2)
  have HS := Lib.hid (fun w => speaks_any w)
  obtain ⟨A, c, _, _, rfl, _⟩ := hl
  obtain ⟨Ar, cr, _, _, _, rfl, _⟩ := hr
  obtain ⟨nl, hnl⟩ : ∃ nl, nl = left.length := ⟨_, rfl⟩
  obtain ⟨nr, hnr⟩ : ∃ nr, nr = right.length := ⟨_, rfl⟩
  rw [← hnl, ← hnr] at HM ⊢
  clear hnl hnr hlm hrm hrm2
  have hb0 := (Below.refl W.heap.size W).alloc (Nat.le_refl _) (.cells #[.int .i64 N, .int .i64 T, .int .i64 St, .slice A nl c, .slice Ar nr cr] 25)
  have hx0 := heap_alloc_new W (.cells #[.int .i64 N, .int .i64 T, .int .i64 St, .slice A nl c, .slice Ar nr cr] 25)
  have HB0 := Lib.hid hb0
  have HX0 := Lib.hid hx0
  clear hb0 hx0
  go_enter Try.func4, Try.ntmps4
  go_wp2_with fail
  refine (HS.out _).mono ?_
  rintro e w1 ⟨rfl, b1⟩
  have hb1 := HB0.out.trans (b1.mono HB0.out.size)
  have hx1 := (b1.block W.heap.size (by simp)).trans HX0.out
  have HB1 := Lib.hid hb1
  have x0 := cell_of_row _ _ 0 _ _ (0, 0) hx1
  have x1 := cell_of_row _ _ 1 _ _ (0, 0) hx1
  have x2 := cell_of_row _ _ 2 _ _ (0, 0) hx1
  have x3 := cell_of_row _ _ 3 _ _ (0, 0) hx1
  have x4 := cell_of_row _ _ 4 _ _ (0, 0) hx1
  clear hb1 hx1 b1
  go_wp2_with fail
  refine (HM.out _ HB1.out).mono ?_
  rintro e w2 ⟨v, u, g, rfl, hM, hv, hu, b2⟩
  have hv' := hv
  have hu' := hu
  obtain ⟨An, At_, Ap, cn, ct, cp, rfl, _, _, hP⟩ := hv'.open_
  obtain ⟨Bn, Bt, Bp, dn, dt, dp, rfl, _, _, _⟩ := hu'.open_
  have HMD := Lib.hid hM
  have HV := Lib.hid hv
  have HU := Lib.hid hu
  have HP := Lib.hid hP
  have HB2 := Lib.hid (HB1.out.trans (b2.mono HB1.out.size))
  clear hM hv hv' hu hu' b2 hP
  have HF : g.Fits := HMD.out.fits g.start
  have hsd : soundB g = true := by have := HMD.out.sound g.start; rw [show g.from_ g.start = g from rfl] at this; rw [this, decide_eq_true_iff]; exact HMD.out.start
  have HSD := Lib.hid hsd
  have HSN := Lib.hid (snd_of hsd)
  have HFT := Lib.hid HF
  have hn1 := HMD.out.few.1
  have hn8 := HMD.out.few.2.1
  have hlt3 := HMD.out.few.2.2.1
  have hnp := HMD.out.few.2.2.2
  obtain ⟨n, hn⟩ : ∃ n, n = g.names.length := ⟨_, rfl⟩
  obtain ⟨np, hnp'⟩ : ∃ np, np = g.prods.length := ⟨_, rfl⟩
  have HNN := Lib.hid hn
  have HNP := Lib.hid hnp'
  obtain ⟨st, hst⟩ : ∃ st : Nat, g.start = (st : Int) := ⟨g.start.toNat, by have := HMD.out.start.1; omega⟩
  have hstn : st < n := by have := HMD.out.start.2; omega
  have HST := Lib.hid hst
  rw [← hn] at hn1 hn8 ⊢
  rw [← hnp'] at hnp ⊢
  obtain ⟨lt, hlt⟩ : ∃ lt, lt = g.terms.length := ⟨_, rfl⟩
  have HLT := Lib.hid hlt
  rw [← hlt] at hlt3
  rw [← hlt]
  rw [hst]
  have HV2 := Lib.hid (show PgAt (fun q => w1.heap.size ≤ q) w2 g (.agg #[.int .i64 st, .int .i64 g.rules, .slice An n cn, .slice At_ lt ct, .slice Ap np cp]) by rw [hn, hnp', hlt, ← hst]; exact HV.out)
  have HU2 := Lib.hid (show PgAt (fun q => w1.heap.size ≤ q) w2 g (.agg #[.int .i64 st, .int .i64 g.rules, .slice Bn n dn, .slice Bt lt dt, .slice Bp np dp]) by rw [hn, hnp', hlt, ← hst]; exact HU.out)
  have HP2 := Lib.hid (show PrdsAt (fun q => w1.heap.size ≤ q) w2 g.prods (.slice Ap np cp) by rw [hnp']; exact HP.out)
  obtain ⟨ru, hru⟩ : ∃ ru, ru = g.rules := ⟨_, rfl⟩
  rw [← hru] at HV2 HU2 ⊢
  clear HF hsd hn hnp' hlt hst HV HP HU hru
  go_wp2_with fail
  have HBX := Lib.hid (⟨((Below.refl w2.heap.size w2).alloc (Nat.le_refl _) _).alloc (by simp) _, (heap_alloc_old _ _ (by simp)).trans (heap_alloc_new w2 _), heap_new _ _ _ (by simp)⟩ : Below w2.heap.size w2 ((w2.alloc (.cells #[.int .i64 st, .int .i64 ru, .slice An n cn, .slice At_ lt ct, .slice Ap np cp] 30)).alloc (.cells #[.int .i64 st, .int .i64 ru, .slice Bn n dn, .slice Bt lt dt, .slice Bp np dp] 33)) ∧ ((w2.alloc (.cells #[.int .i64 st, .int .i64 ru, .slice An n cn, .slice At_ lt ct, .slice Ap np cp] 30)).alloc (.cells #[.int .i64 st, .int .i64 ru, .slice Bn n dn, .slice Bt lt dt, .slice Bp np dp] 33)).heap[w2.heap.size]? = some (.cells #[.int .i64 st, .int .i64 ru, .slice An n cn, .slice At_ lt ct, .slice Ap np cp] 30 (0, 0)) ∧ ((w2.alloc (.cells #[.int .i64 st, .int .i64 ru, .slice An n cn, .slice At_ lt ct, .slice Ap np cp] 30)).alloc (.cells #[.int .i64 st, .int .i64 ru, .slice Bn n dn, .slice Bt lt dt, .slice Bp np dp] 33)).heap[w2.heap.size + 1]? = some (.cells #[.int .i64 st, .int .i64 ru, .slice Bn n dn, .slice Bt lt dt, .slice Bp np dp] 33 (0, 0)))
  generalize hV : World.alloc (World.alloc w2 _) _ = V
  rw [hV] at HBX
  clear hV
  have HCP := Lib.hid (fun (w : World) (h : Below V.heap.size V w) => (HV2.out.under (HBX.out.1.trans (h.mono HBX.out.1.size))))
  have HCU := Lib.hid (fun (w : World) (h : Below V.heap.size V w) => (HU2.out.under (HBX.out.1.trans (h.mono HBX.out.1.size))))
  refine Loose.region_loose (fun w => Below V.heap.size V w ∧ w.heap[w2.heap.size]? = some (.cells #[.int .i64 st, .int .i64 ru, .slice An n cn, .slice At_ lt ct, .slice Ap np cp] 30 (0, 0)) ∧ w.heap[w2.heap.size + 1]? = some (.cells #[.int .i64 st, .int .i64 ru, .slice Bn n dn, .slice Bt lt dt, .slice Bp np dp] 33 (0, 0))) _ (by kernel_rfl) (by kernel_rfl)
    (Loose.stays (ts := [none, some (tFst2 g), none, some (tFsR g)]) (fun w w' h b => ⟨h.1.trans (b.mono h.1.size), (b.block _ (Gn.heap_lt h.2.1)).trans h.2.1, (b.block _ (Gn.heap_lt h.2.2)).trans h.2.2⟩) (.none (.some (tFst2_st g) (.none (.some (tFsR_st g) .nil)))))
    ⟨(Below.refl _ _).drew, HBX.out.2⟩ ?_
  refine Loose.reads (.agg #[.int .i64 st, .int .i64 ru, .slice An n cn, .slice At_ lt ct, .slice Ap np cp]) rfl rfl ?_ ?_
  · intro w hw
    have y0 := cell_of_row _ _ 0 _ _ (0, 0) hw.2.1
    have y1 := cell_of_row _ _ 1 _ _ (0, 0) hw.2.1
    have y2 := cell_of_row _ _ 2 _ _ (0, 0) hw.2.1
    have y3 := cell_of_row _ _ 3 _ _ (0, 0) hw.2.1
    have y4 := cell_of_row _ _ 4 _ _ (0, 0) hw.2.1
    clear hw
    go_simp
  try simp only [Act.put, List.setIfInBounds_toArray, List.set_cons_zero, List.set_cons_succ]
  refine Loose.calls _ 16 #[.agg #[.int .i64 st, .int .i64 ru, .slice An n cn, .slice At_ lt ct, .slice Ap np cp]] rfl rfl ?_ (fun w hw => fst2_told g _ w _ (HCP.out w hw.1) HFT.out HSD.out) (fun v1 => ?_)
  · intro w hw
    clear hw
    go_simp
  try simp only [Act.put, List.setIfInBounds_toArray, List.set_cons_zero, List.set_cons_succ]
  refine Loose.reads (.agg #[.int .i64 st, .int .i64 ru, .slice Bn n dn, .slice Bt lt dt, .slice Bp np dp]) rfl rfl ?_ ?_
  · intro w hw
    have y0 := cell_of_row _ _ 0 _ _ (0, 0) hw.2.2
    have y1 := cell_of_row _ _ 1 _ _ (0, 0) hw.2.2
    have y2 := cell_of_row _ _ 2 _ _ (0, 0) hw.2.2
    have y3 := cell_of_row _ _ 3 _ _ (0, 0) hw.2.2
    have y4 := cell_of_row _ _ 4 _ _ (0, 0) hw.2.2
    clear hw
    go_simp
  try simp only [Act.put, List.setIfInBounds_toArray, List.set_cons_zero, List.set_cons_succ]
  refine Loose.calls _ 17 #[.agg #[.int .i64 st, .int .i64 ru, .slice Bn n dn, .slice Bt lt dt, .slice Bp np dp]] rfl rfl ?_ (fun w hw => fsR_told g _ w _ (HCU.out w hw.1) HSN.out) (fun v2 => ?_)
  · intro w hw
    clear hw
    go_simp
  try simp only [Act.put, List.setIfInBounds_toArray, List.set_cons_zero, List.set_cons_succ]
  refine Loose.reads (v1) rfl rfl ?_ ?_
  · intro w hw
    clear hw
    go_simp
  try simp only [Act.put, List.setIfInBounds_toArray, List.set_cons_zero, List.set_cons_succ]
  refine Loose.reads (v2) rfl rfl ?_ ?_
  · intro w hw
    clear hw
    go_simp
  try simp only [Act.put, List.setIfInBounds_toArray, List.set_cons_zero, List.set_cons_succ]
  refine Loose.done ?_
  intro w5 hw5 hF
  obtain ⟨⟨_, t1⟩, t2⟩ := hF
  obtain ⟨L, hL, b1, F, R, rfl, r1, t1⟩ := t1
  obtain ⟨go, c2, Q, O, rfl, t2, l2, hO⟩ := t2
  have hO2 := hO L hL
  rw [← HNN.out] at r1 t1 t2 hO2 ⊢
  rw [← HLT.out] at t2 hO2
  have HR1 := Lib.hid r1
  have HT1 := Lib.hid t1
  have HT2 := Lib.hid t2
  have HO2 := Lib.hid hO2
  have HLB := Lib.hid l2
  have HL := Lib.hid hL
  have HW5 := Lib.hid hw5
  clear hw5 hL t1 t2 l2 hO hO2 r1
  go_wp2_with fail
  refine LooseD.region_loose (fun w => Below w5.heap.size w5 w ∧ w.heap[w2.heap.size]? = some (.cells #[.int .i64 st, .int .i64 ru, .slice An n cn, .slice At_ lt ct, .slice Ap np cp] 30 (0, 0)) ∧ w.heap[w2.heap.size + 1]? = some (.cells #[.int .i64 st, .int .i64 ru, .slice Bn n dn, .slice Bt lt dt, .slice Bp np dp] 33 (0, 0))) _ _ (by kernel_rfl) (by kernel_rfl)
    (LooseD.waits (D := [[], [], [], [], [1, 3], [], [], [], [], [], [], [8, 10]]) (by kernel_rfl))
    (LooseD.stays (ts := [none, some (.told (tRch g)), none, some (.told (tRch g)), some (.is (.bool true)), none, none, none, some (.told (tLps g)), none, some (.told (tLpR g)), some (.is (.bool true))]) (fun w w' h b => ⟨h.1.trans (b.mono h.1.size), (b.block _ (Gn.heap_lt h.2.1)).trans h.2.1, (b.block _ (Gn.heap_lt h.2.2)).trans h.2.2⟩) (.none (.told (tRch_st g) (.none (.told (tRch_st g) (.is (.none (.none (.none (.told (tLps_st g) (.none (.told (tLpR_st g) (.is .nil)))))))))))))
    ⟨(Below.refl _ _).drew, HW5.out.2⟩ ?_
  refine LooseD.reads (.agg #[.int .i64 st, .int .i64 ru, .slice An n cn, .slice At_ lt ct, .slice Ap np cp]) rfl rfl ?_ ?_
  · intro w hw
    have y0 := cell_of_row _ _ 0 _ _ (0, 0) hw.2.1
    have y1 := cell_of_row _ _ 1 _ _ (0, 0) hw.2.1
    have y2 := cell_of_row _ _ 2 _ _ (0, 0) hw.2.1
    have y3 := cell_of_row _ _ 3 _ _ (0, 0) hw.2.1
    have y4 := cell_of_row _ _ 4 _ _ (0, 0) hw.2.1
    clear hw
    go_simp
  try simp only [Act.put, List.setIfInBounds_toArray, List.set_cons_zero, List.set_cons_succ]
  refine LooseD.calls _ 18 #[.agg #[.int .i64 st, .int .i64 ru, .slice An n cn, .slice At_ lt ct, .slice Ap np cp]] rfl rfl ?_ (fun w hw _ => rch_told g HFT.out HSD.out _ w _ (HCP.out w (HW5.out.1.trans (hw.1.mono HW5.out.1.size)))) (fun v4 => ?_)
  · intro w hw
    clear hw
    go_simp
  try simp only [Act.put, List.setIfInBounds_toArray, List.set_cons_zero, List.set_cons_succ]
  refine LooseD.reads (.agg #[.int .i64 st, .int .i64 ru, .slice Bn n dn, .slice Bt lt dt, .slice Bp np dp]) rfl rfl ?_ ?_
  · intro w hw
    have y0 := cell_of_row _ _ 0 _ _ (0, 0) hw.2.2
    have y1 := cell_of_row _ _ 1 _ _ (0, 0) hw.2.2
    have y2 := cell_of_row _ _ 2 _ _ (0, 0) hw.2.2
    have y3 := cell_of_row _ _ 3 _ _ (0, 0) hw.2.2
    have y4 := cell_of_row _ _ 4 _ _ (0, 0) hw.2.2
    clear hw
    go_simp
  try simp only [Act.put, List.setIfInBounds_toArray, List.set_cons_zero, List.set_cons_succ]
  refine LooseD.calls _ 19 #[.agg #[.int .i64 st, .int .i64 ru, .slice Bn n dn, .slice Bt lt dt, .slice Bp np dp]] rfl rfl ?_ (fun w hw _ => rchR_told g _ w _ (HCU.out w (HW5.out.1.trans (hw.1.mono HW5.out.1.size))) HSN.out) (fun v5 => ?_)
  · intro w hw
    clear hw
    go_simp
  try simp only [Act.put, List.setIfInBounds_toArray, List.set_cons_zero, List.set_cons_succ]
  refine LooseD.gives (.bool true) 13 #[v4, v5] rfl rfl ?_ (fun w hw hH => by
    obtain ⟨l, hl, k1, k2⟩ := rch_same (hH 1 (by decide) v4 _ rfl rfl) (hH 3 (by decide) v5 _ rfl rfl)
    exact bools_any l (by rw [hl, ← HNN.out]; omega) _ _ w v4 v5 k1 k2) ?_
  · intro w hw
    clear hw
    go_simp
  try simp only [Act.put, List.setIfInBounds_toArray, List.set_cons_zero, List.set_cons_succ]
  refine LooseD.reads (.bool false) rfl rfl ?_ ?_
  · intro w hw
    clear hw
    go_simp
  try simp only [Act.put, List.setIfInBounds_toArray, List.set_cons_zero, List.set_cons_succ]
  refine LooseD.reads (.bool false) rfl rfl ?_ ?_
  · intro w hw
    clear hw
    go_simp
  try simp only [Act.put, List.setIfInBounds_toArray, List.set_cons_zero, List.set_cons_succ]
  refine LooseD.reads (.agg #[.int .i64 st, .int .i64 ru, .slice An n cn, .slice At_ lt ct, .slice Ap np cp]) rfl rfl ?_ ?_
  · intro w hw
    have y0 := cell_of_row _ _ 0 _ _ (0, 0) hw.2.1
    have y1 := cell_of_row _ _ 1 _ _ (0, 0) hw.2.1
    have y2 := cell_of_row _ _ 2 _ _ (0, 0) hw.2.1
    have y3 := cell_of_row _ _ 3 _ _ (0, 0) hw.2.1
    have y4 := cell_of_row _ _ 4 _ _ (0, 0) hw.2.1
    clear hw
    go_simp
  try simp only [Act.put, List.setIfInBounds_toArray, List.set_cons_zero, List.set_cons_succ]
  refine LooseD.calls _ 20 #[.agg #[.int .i64 st, .int .i64 ru, .slice An n cn, .slice At_ lt ct, .slice Ap np cp]] rfl rfl ?_ (fun w hw _ => lps_told g _ w _ (HCP.out w (HW5.out.1.trans (hw.1.mono HW5.out.1.size))) HFT.out HSD.out) (fun v6 => ?_)
  · intro w hw
    clear hw
    go_simp
  try simp only [Act.put, List.setIfInBounds_toArray, List.set_cons_zero, List.set_cons_succ]
  refine LooseD.reads (.agg #[.int .i64 st, .int .i64 ru, .slice Bn n dn, .slice Bt lt dt, .slice Bp np dp]) rfl rfl ?_ ?_
  · intro w hw
    have y0 := cell_of_row _ _ 0 _ _ (0, 0) hw.2.2
    have y1 := cell_of_row _ _ 1 _ _ (0, 0) hw.2.2
    have y2 := cell_of_row _ _ 2 _ _ (0, 0) hw.2.2
    have y3 := cell_of_row _ _ 3 _ _ (0, 0) hw.2.2
    have y4 := cell_of_row _ _ 4 _ _ (0, 0) hw.2.2
    clear hw
    go_simp
  try simp only [Act.put, List.setIfInBounds_toArray, List.set_cons_zero, List.set_cons_succ]
  refine LooseD.calls _ 21 #[.agg #[.int .i64 st, .int .i64 ru, .slice Bn n dn, .slice Bt lt dt, .slice Bp np dp]] rfl rfl ?_ (fun w hw _ => lpR_told g _ w _ (HCU.out w (HW5.out.1.trans (hw.1.mono HW5.out.1.size))) HSN.out) (fun v7 => ?_)
  · intro w hw
    clear hw
    go_simp
  try simp only [Act.put, List.setIfInBounds_toArray, List.set_cons_zero, List.set_cons_succ]
  refine LooseD.gives (.bool true) 13 #[v6, v7] rfl rfl ?_ (fun w hw hH => by
    obtain ⟨l, hl, k1, k2⟩ := lps_same (hH 8 (by decide) v6 _ rfl rfl) (hH 10 (by decide) v7 _ rfl rfl)
    exact bools_any l (by rw [hl, ← HNN.out]; omega) _ _ w v6 v7 k1 k2) ?_
  · intro w hw
    clear hw
    go_simp
  try simp only [Act.put, List.setIfInBounds_toArray, List.set_cons_zero, List.set_cons_succ]
  refine LooseD.reads (.bool false) rfl rfl ?_ ?_
  · intro w hw
    clear hw
    go_simp
  try simp only [Act.put, List.setIfInBounds_toArray, List.set_cons_zero, List.set_cons_succ]
  refine LooseD.reads (.bool false) rfl rfl ?_ ?_
  · intro w hw
    clear hw
    go_simp
  try simp only [Act.put, List.setIfInBounds_toArray, List.set_cons_zero, List.set_cons_succ]
  refine LooseD.reads (.bool false) rfl rfl ?_ ?_
  · intro w hw
    clear hw
    go_simp
  try simp only [Act.put, List.setIfInBounds_toArray, List.set_cons_zero, List.set_cons_succ]
  refine LooseD.reads (.slice (some ⟨b1, 0, none⟩) n n) rfl rfl ?_ ?_
  · intro w hw
    clear hw
    go_simp
  try simp only [Act.put, List.setIfInBounds_toArray, List.set_cons_zero, List.set_cons_succ]
  refine LooseD.reads (.int .i64 n) rfl rfl ?_ ?_
  · intro w hw
    clear hw
    go_simp
  try simp only [Act.put, List.setIfInBounds_toArray, List.set_cons_zero, List.set_cons_succ]
  refine LooseD.reads (.slice (some ⟨go, 0, none⟩) n c2) rfl rfl ?_ ?_
  · intro w hw
    clear hw
    go_simp
  try simp only [Act.put, List.setIfInBounds_toArray, List.set_cons_zero, List.set_cons_succ]
  refine LooseD.reads (.int .i64 n) rfl rfl ?_ ?_
  · intro w hw
    clear hw
    go_simp
  try simp only [Act.put, List.setIfInBounds_toArray, List.set_cons_zero, List.set_cons_succ]
  refine LooseD.reads (.bool false) rfl rfl ?_ ?_
  · intro w hw
    clear hw
    go_simp
  try simp only [Act.put, List.setIfInBounds_toArray, List.set_cons_zero, List.set_cons_succ]
  refine LooseD.reads (.bool false) rfl rfl ?_ ?_
  · intro w hw
    clear hw
    go_simp
  try simp only [Act.put, List.setIfInBounds_toArray, List.set_cons_zero, List.set_cons_succ]
  refine LooseD.done ?_
  intro w7 hw7 _
  have HB7 := Lib.hid (HB2.out.trans ((HBX.out.1.trans ((HW5.out.1.trans (hw7.1.mono HW5.out.1.size)).mono HBX.out.1.size)).mono HB2.out.size))
  have HD7 := Lib.hid hw7.1
  clear hw7
  go_wp2_with fail
  go_loopw [7] (fun i wr => ∃ k : Nat, k ≤ n ∧ i = .int .i64 k ∧ wr = w7) (fun i _ => n - (intOf i).toNat)
  case atStart => exact ⟨0, Nat.zero_le _, rfl, rfl⟩
  case round =>
    obtain ⟨k, hk, rfl, rfl⟩ := hrel
    by_cases hlt : k < n
    · have hlt2 : (k : Int) < (n : Int) := by omega
      have y1 := (HR1.out.of_block (HD7.out.block _ HR1.out.lt)).cell hlt
      have ht2 := HT2.out k hlt
      have y2 := (HD7.out.cell (p := ⟨go, k, none⟩) HLB.out).trans ht2.1
      have hbits := ht2.2.of_block (HD7.out.block _ ht2.2.lt)
      have HBT := Lib.hid hbits
      obtain ⟨hi1, hi2⟩ := HT1.out k hlt
      obtain ⟨f1, f2, f3, f4⟩ := row_facts HSN.out hi2
      rw [← HLT.out] at f3
      have HF1 := Lib.hid f1
      have HF3 := Lib.hid f3
      have HF0 := Lib.hid f2
      have HF4 := Lib.hid f4
      obtain ⟨Ax, cx, bx, hx, _, hx3, hx4⟩ := hi1.under HD7.out
      rw [hx] at y1
      obtain ⟨l, hl⟩ : ∃ l, l = R k := ⟨_, rfl⟩
      have hx4' : ∀ (i : Nat) (h : i < l.length), wr.cell? ⟨bx, i, none⟩ = some (.int .i64 l[i]) := by subst hl; exact hx4
      rw [← hl] at y1 hx3 HF0 HF1 HF3 HF4
      have HPOS := Lib.hid (pos_start (l := l) (by rw [hl]; exact f2))
      obtain ⟨ll, hll⟩ : ∃ ll, ll = l.length := ⟨_, rfl⟩
      rw [← hll] at y1 hx3
      have HLL := Lib.hid hll
      have HX3 := Lib.hid hx3
      have HX4 := Lib.hid hx4'
      clear f1 f2 f3 f4 ht2 hbits hi1 hi2 hx hx3 hx4 hx4' hl hll
      go_wp2_with fail
      go_loopw [8, 9] (fun at_ i wq => ∃ (a t : Nat), t ≤ lt ∧ i = .int .i64 t ∧ at_ = .int .i64 a ∧ AtPos l t a ∧ wq = wr) (fun _ i _ => lt - (intOf i).toNat)
      case atStart => exact ⟨0, 0, Nat.zero_le _, rfl, rfl, HPOS.out, rfl⟩
      case round =>
        obtain ⟨a, t, ht, rfl, rfl, hpos, rfl⟩ := hrel
        have HP := Lib.hid hpos
        clear hpos
        by_cases htm : t < lt
        · have htm2 : (t : Int) < (lt : Int) := by omega
          have yb := HBT.out.cell htm
          have hiff : O k t = true ↔ (t : Int) ∈ l := (HO2.out k t hlt htm).trans (HF4.out t).symm
          cases hok : O k t
          · rw [hok] at yb
            have HP2 := Lib.hid (pos_miss HP.out (fun hm => by have := hiff.2 hm; rw [hok] at this; cases this))
            clear hiff hok
            go_wp2_with fail
            go_roundw
            case rel => exact ⟨a, t + 1, by omega, by simp, rfl, HP2.out, trivial⟩
            case measure => simp [intOf]; omega
          · rw [hok] at yb
            obtain ⟨ha, hae, hp2⟩ := pos_hit HF1.out HP.out (hiff.1 hok)
            have HP2 := Lib.hid hp2
            have hall : a < ll := by rw [HLL.out]; exact ha
            obtain ⟨eX, hxb, _⟩ := HX3.out (by omega)
            subst eX
            have yx := HX4.out a ha
            rw [hae] at yx
            have ha2 : (a : Int) < (ll : Int) := by omega
            have ha3 : ¬ (a : Int) ≥ (ll : Int) := by omega
            have hw1 : IntKind.i64.wrap ((a : Int) + 1) = (a : Int) + 1 := IntWalk.i64_in _ (by have := pos_le HF1.out HF0.out HP.out; omega)
            clear hiff hok ha hae hp2
            go_wp2_with fail
            go_roundw
            case rel => exact ⟨a + 1, t + 1, by omega, by simp, by simp, HP2.out, trivial⟩
            case measure => simp [intOf]; omega
        · have hte : lt = t := by omega
          subst hte
          have htm2 : ¬ ((lt : Nat) : Int) < ((lt : Nat) : Int) := by omega
          have hae := pos_end HP.out HF3.out
          rw [← HLL.out] at hae
          have e1 : ((a : Int) != (ll : Int)) = false := by rw [bne_eq_false_iff_eq]; omega
          have hael : ll = a := hae.symm
          subst hael
          clear hae e1
          go_wp2_with fail
          go_roundw
          case rel => exact ⟨k + 1, by omega, by simp, trivial⟩
          case measure => simp [intOf]; omega
    · have hke : n = k := by omega
      subst hke
      have hlt2 : ¬ ((n : Nat) : Int) < ((n : Nat) : Int) := by omega
      go_wp2_with fail
      go_ret
      exact ⟨rfl, HB7.out⟩
end Go.Proofs.Ytlkijnglpllcdaa.Fx
