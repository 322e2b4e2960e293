/-
  FactsWords: the program's answers and the document's are the same.
-/
import Derived.Test.YtlkijnglpllcdaaFxMadeW
import Derived.Test.YtlkijnglpllcdaaFxTold
namespace Go.Proofs.Ytlkijnglpllcdaa.Fx
open Go.RowKit
set_option maxRecDepth 100000
set_option linter.unusedSimpArgs false
set_option linter.unusedVariables false

set_option maxHeartbeats 8000000 in
theorem walk_words (N T St : Int) (left : List Int) (right : List (List Int)) (W : World) (vl vr : Value) (hl : NumsIn W left vl) (hr : RowsIn W right vr) (hlm : left.length ≤ maxLen) (hrm : right.length ≤ maxLen) (hrm2 : ∀ r ∈ right, r.length ≤ maxLen) :
    Calls Try.prog 3 #[.agg #[.int .i64 N, .int .i64 T, .int .i64 St, vl, vr]] W fun e w' => e = .returned (.bool true) ∧ Below W.heap.size W w' := by
  have HM := Lib.hid (fun w (b : Below W.heap.size W w) => made_any N T St left right w vl vr (hl.under b) (hr.under b) hlm hrm hrm2)
  have HS := Lib.hid (fun w => speaks_any w)
  obtain ⟨A, c, _, _, rfl, _⟩ := hl
  obtain ⟨Ar, cr, _, _, _, rfl, _⟩ := hr
  obtain ⟨nl, hnl⟩ : ∃ nl, nl = left.length := ⟨_, rfl⟩
  obtain ⟨nr, hnr⟩ : ∃ nr, nr = right.length := ⟨_, rfl⟩
  rw [← hnl, ← hnr] at HM ⊢
  clear hnl hnr hlm hrm hrm2
  have hb0 := (Below.refl W.heap.size W).alloc (Nat.le_refl _) (.cells #[.int .i64 N, .int .i64 T, .int .i64 St, .slice A nl c, .slice Ar nr cr] 25)
  have hx0 := heap_alloc_new W (.cells #[.int .i64 N, .int .i64 T, .int .i64 St, .slice A nl c, .slice Ar nr cr] 25)
  have HB0 := Lib.hid hb0
  have HX0 := Lib.hid hx0
  clear hb0 hx0
  go_enter Try.func3, Try.ntmps3
  go_wp2_with fail
  refine (HS.out _).mono ?_
  rintro e w1 ⟨rfl, b1⟩
  have hb1 := HB0.out.trans (b1.mono HB0.out.size)
  have hx1 := (b1.block W.heap.size (by simp)).trans HX0.out
  have HB1 := Lib.hid hb1
  have x0 := cell_of_row _ _ 0 _ _ (0, 0) hx1
  have x1 := cell_of_row _ _ 1 _ _ (0, 0) hx1
  have x2 := cell_of_row _ _ 2 _ _ (0, 0) hx1
  have x3 := cell_of_row _ _ 3 _ _ (0, 0) hx1
  have x4 := cell_of_row _ _ 4 _ _ (0, 0) hx1
  clear hb1 hx1 b1
  go_wp2_with fail
  refine (HM.out _ HB1.out).mono ?_
  rintro e w2 ⟨v, u, g, rfl, hM, hv, hu, b2⟩
  have hv' := hv
  have hu' := hu
  obtain ⟨An, At_, Ap, cn, ct, cp, rfl, _, _, hP⟩ := hv'.open_
  obtain ⟨Bn, Bt, Bp, dn, dt, dp, rfl, _, _, _⟩ := hu'.open_
  have HMD := Lib.hid hM
  have HV := Lib.hid hv
  have HU := Lib.hid hu
  have HP := Lib.hid hP
  have HB2 := Lib.hid (HB1.out.trans (b2.mono HB1.out.size))
  clear hM hv hv' hu hu' b2 hP
  have HF : g.Fits := HMD.out.fits g.start
  have hsd : soundB g = true := by have := HMD.out.sound g.start; rw [show g.from_ g.start = g from rfl] at this; rw [this, decide_eq_true_iff]; exact HMD.out.start
  have HSD := Lib.hid hsd
  have HSN := Lib.hid (snd_of hsd)
  have HFT := Lib.hid HF
  have hn1 := HMD.out.few.1
  have hn8 := HMD.out.few.2.1
  have hlt3 := HMD.out.few.2.2.1
  have hnp := HMD.out.few.2.2.2
  obtain ⟨n, hn⟩ : ∃ n, n = g.names.length := ⟨_, rfl⟩
  obtain ⟨np, hnp'⟩ : ∃ np, np = g.prods.length := ⟨_, rfl⟩
  have HNN := Lib.hid hn
  have HNP := Lib.hid hnp'
  obtain ⟨st, hst⟩ : ∃ st : Nat, g.start = (st : Int) := ⟨g.start.toNat, by have := HMD.out.start.1; omega⟩
  have hstn : st < n := by have := HMD.out.start.2; omega
  have HST := Lib.hid hst
  rw [← hn] at hn1 hn8 ⊢
  rw [← hnp'] at hnp ⊢
  obtain ⟨lt, hlt⟩ : ∃ lt, lt = g.terms.length := ⟨_, rfl⟩
  have HLT := Lib.hid hlt
  rw [← hlt] at hlt3
  rw [← hlt]
  rw [hst]
  have HV2 := Lib.hid (show PgAt (fun q => w1.heap.size ≤ q) w2 g (.agg #[.int .i64 st, .int .i64 g.rules, .slice An n cn, .slice At_ lt ct, .slice Ap np cp]) by rw [hn, hnp', hlt, ← hst]; exact HV.out)
  have HU2 := Lib.hid (show PgAt (fun q => w1.heap.size ≤ q) w2 g (.agg #[.int .i64 st, .int .i64 g.rules, .slice Bn n dn, .slice Bt lt dt, .slice Bp np dp]) by rw [hn, hnp', hlt, ← hst]; exact HU.out)
  have HP2 := Lib.hid (show PrdsAt (fun q => w1.heap.size ≤ q) w2 g.prods (.slice Ap np cp) by rw [hnp']; exact HP.out)
  obtain ⟨ru, hru⟩ : ∃ ru, ru = g.rules := ⟨_, rfl⟩
  rw [← hru] at HV2 HU2 ⊢
  clear HF hsd hn hnp' hlt hst HV HP HU hru
  go_wp2_with fail
  have HBX := Lib.hid (⟨((Below.refl w2.heap.size w2).alloc (Nat.le_refl _) _).alloc (by simp) _, (heap_alloc_old _ _ (by simp)).trans (heap_alloc_new w2 _), heap_new _ _ _ (by simp)⟩ : Below w2.heap.size w2 ((w2.alloc (.cells #[.int .i64 st, .int .i64 ru, .slice An n cn, .slice At_ lt ct, .slice Ap np cp] 30)).alloc (.cells #[.int .i64 st, .int .i64 ru, .slice Bn n dn, .slice Bt lt dt, .slice Bp np dp] 33)) ∧ ((w2.alloc (.cells #[.int .i64 st, .int .i64 ru, .slice An n cn, .slice At_ lt ct, .slice Ap np cp] 30)).alloc (.cells #[.int .i64 st, .int .i64 ru, .slice Bn n dn, .slice Bt lt dt, .slice Bp np dp] 33)).heap[w2.heap.size]? = some (.cells #[.int .i64 st, .int .i64 ru, .slice An n cn, .slice At_ lt ct, .slice Ap np cp] 30 (0, 0)) ∧ ((w2.alloc (.cells #[.int .i64 st, .int .i64 ru, .slice An n cn, .slice At_ lt ct, .slice Ap np cp] 30)).alloc (.cells #[.int .i64 st, .int .i64 ru, .slice Bn n dn, .slice Bt lt dt, .slice Bp np dp] 33)).heap[w2.heap.size + 1]? = some (.cells #[.int .i64 st, .int .i64 ru, .slice Bn n dn, .slice Bt lt dt, .slice Bp np dp] 33 (0, 0)))
  generalize hV : World.alloc (World.alloc w2 _) _ = V
  rw [hV] at HBX
  clear hV
  have HCP := Lib.hid (fun (w : World) (h : Below V.heap.size V w) => (HV2.out.under (HBX.out.1.trans (h.mono HBX.out.1.size))))
  have HCU := Lib.hid (fun (w : World) (h : Below V.heap.size V w) => (HU2.out.under (HBX.out.1.trans (h.mono HBX.out.1.size))))
  refine Loose.region_loose (fun w => Below V.heap.size V w ∧ w.heap[w2.heap.size]? = some (.cells #[.int .i64 st, .int .i64 ru, .slice An n cn, .slice At_ lt ct, .slice Ap np cp] 30 (0, 0)) ∧ w.heap[w2.heap.size + 1]? = some (.cells #[.int .i64 st, .int .i64 ru, .slice Bn n dn, .slice Bt lt dt, .slice Bp np dp] 33 (0, 0))) _ (by kernel_rfl) (by kernel_rfl)
    (Loose.stays (ts := [none, some (tLen g), none, some (tLen g)]) (fun w w' h b => ⟨h.1.trans (b.mono h.1.size), (b.block _ (Gn.heap_lt h.2.1)).trans h.2.1, (b.block _ (Gn.heap_lt h.2.2)).trans h.2.2⟩) (.none (.some (tLen_st g) (.none (.some (tLen_st g) .nil)))))
    ⟨(Below.refl _ _).drew, HBX.out.2⟩ ?_
  refine Loose.reads (.agg #[.int .i64 st, .int .i64 ru, .slice An n cn, .slice At_ lt ct, .slice Ap np cp]) rfl rfl ?_ ?_
  · intro w hw
    have y0 := cell_of_row _ _ 0 _ _ (0, 0) hw.2.1
    have y1 := cell_of_row _ _ 1 _ _ (0, 0) hw.2.1
    have y2 := cell_of_row _ _ 2 _ _ (0, 0) hw.2.1
    have y3 := cell_of_row _ _ 3 _ _ (0, 0) hw.2.1
    have y4 := cell_of_row _ _ 4 _ _ (0, 0) hw.2.1
    clear hw
    go_simp
  try simp only [Act.put, List.setIfInBounds_toArray, List.set_cons_zero, List.set_cons_succ]
  refine Loose.calls _ 10 #[.agg #[.int .i64 st, .int .i64 ru, .slice An n cn, .slice At_ lt ct, .slice Ap np cp]] rfl rfl ?_ (fun w hw => len_told g HFT.out HSD.out _ w _ (HCP.out w hw.1)) (fun v1 => ?_)
  · intro w hw
    clear hw
    go_simp
  try simp only [Act.put, List.setIfInBounds_toArray, List.set_cons_zero, List.set_cons_succ]
  refine Loose.reads (.agg #[.int .i64 st, .int .i64 ru, .slice Bn n dn, .slice Bt lt dt, .slice Bp np dp]) rfl rfl ?_ ?_
  · intro w hw
    have y0 := cell_of_row _ _ 0 _ _ (0, 0) hw.2.2
    have y1 := cell_of_row _ _ 1 _ _ (0, 0) hw.2.2
    have y2 := cell_of_row _ _ 2 _ _ (0, 0) hw.2.2
    have y3 := cell_of_row _ _ 3 _ _ (0, 0) hw.2.2
    have y4 := cell_of_row _ _ 4 _ _ (0, 0) hw.2.2
    clear hw
    go_simp
  try simp only [Act.put, List.setIfInBounds_toArray, List.set_cons_zero, List.set_cons_succ]
  refine Loose.calls _ 11 #[.agg #[.int .i64 st, .int .i64 ru, .slice Bn n dn, .slice Bt lt dt, .slice Bp np dp]] rfl rfl ?_ (fun w hw => lenR_told g HSN.out _ w _ (HCU.out w hw.1)) (fun v2 => ?_)
  · intro w hw
    clear hw
    go_simp
  try simp only [Act.put, List.setIfInBounds_toArray, List.set_cons_zero, List.set_cons_succ]
  refine Loose.reads (v1) rfl rfl ?_ ?_
  · intro w hw
    clear hw
    go_simp
  try simp only [Act.put, List.setIfInBounds_toArray, List.set_cons_zero, List.set_cons_succ]
  refine Loose.reads (v2) rfl rfl ?_ ?_
  · intro w hw
    clear hw
    go_simp
  try simp only [Act.put, List.setIfInBounds_toArray, List.set_cons_zero, List.set_cons_succ]
  refine Loose.done ?_
  intro w5 hw5 hF
  obtain ⟨⟨_, t1⟩, t2⟩ := hF
  obtain ⟨L, hL, t1⟩ := t1
  obtain ⟨L2, hL2, t2⟩ := t2
  obtain rfl := least_unique hL hL2
  obtain ⟨hll, hlo⟩ := runs_ok hL.runs
  have hln : L.length = n := by rw [hll, HNN.out]
  obtain ⟨b1, c1, rfl, hc1, l1, t1⟩ := ints_cells t1 (by omega)
  obtain ⟨b2, c2, rfl, hc2, l2, t2⟩ := ints_cells t2 (by omega)
  rw [hln] at hc1 hc2 t1 t2 ⊢
  have HT1 := Lib.hid t1
  have HT2 := Lib.hid t2
  have HLB := Lib.hid (⟨l1, l2⟩ : b1 < w5.heap.size ∧ b2 < w5.heap.size)
  have HL := Lib.hid hL
  have HLO := Lib.hid hlo
  have HLN := Lib.hid hln
  have HW5 := Lib.hid hw5
  have y0 := cell_of_row _ _ 0 _ _ (0, 0) hw5.2.1
  have y1 := cell_of_row _ _ 1 _ _ (0, 0) hw5.2.1
  have y2 := cell_of_row _ _ 2 _ _ (0, 0) hw5.2.1
  have y3 := cell_of_row _ _ 3 _ _ (0, 0) hw5.2.1
  have y4 := cell_of_row _ _ 4 _ _ (0, 0) hw5.2.1
  clear hw5 hL hL2 hll hlo hln t1 t2 l1 l2
  go_wp2_with fail
  refine (gen_told g HFT.out HSD.out _ w5 _ (HCP.out w5 HW5.out.1)).mono ?_
  rintro e w6 ⟨v3, rfl, b6, L3, hL3, t3⟩
  obtain rfl := least_unique HL.out hL3
  obtain ⟨b3, c3, rfl, hc3, l3, t3⟩ := bools_cells t3 (by rw [HLN.out]; omega)
  rw [HLN.out] at hc3 t3 ⊢
  have HB6 := Lib.hid b6
  have HT3 := Lib.hid t3
  have HL3 := Lib.hid l3
  have HV6 := Lib.hid (HW5.out.1.trans (HB6.out.mono HW5.out.1.size))
  clear y0 y1 y2 y3 y4 b6 hL3 t3 l3
  go_wp2_with fail
  refine LooseD.region_loose (fun w => Below w6.heap.size w6 w ∧ w.heap[w2.heap.size]? = some (.cells #[.int .i64 st, .int .i64 ru, .slice An n cn, .slice At_ lt ct, .slice Ap np cp] 30 (0, 0)) ∧ w.heap[w2.heap.size + 1]? = some (.cells #[.int .i64 st, .int .i64 ru, .slice Bn n dn, .slice Bt lt dt, .slice Bp np dp] 33 (0, 0))) _ _ (by kernel_rfl) (by kernel_rfl)
    (LooseD.waits (D := [[], [], [], [], [1, 3]]) (by kernel_rfl))
    (LooseD.stays (ts := [none, some (.told (tNull g)), none, some (.told (tNulR g)), some (.is (.bool true))]) (fun w w' h b => ⟨h.1.trans (b.mono h.1.size), (b.block _ (Gn.heap_lt h.2.1)).trans h.2.1, (b.block _ (Gn.heap_lt h.2.2)).trans h.2.2⟩) (.none (.told (tNull_st g) (.none (.told (tNulR_st g) (.is .nil))))))
    ⟨(Below.refl _ _).drew, (HB6.out.block _ (Gn.heap_lt HW5.out.2.1)).trans HW5.out.2.1, (HB6.out.block _ (Gn.heap_lt HW5.out.2.2)).trans HW5.out.2.2⟩ ?_
  refine LooseD.reads (.agg #[.int .i64 st, .int .i64 ru, .slice An n cn, .slice At_ lt ct, .slice Ap np cp]) rfl rfl ?_ ?_
  · intro w hw
    have y0 := cell_of_row _ _ 0 _ _ (0, 0) hw.2.1
    have y1 := cell_of_row _ _ 1 _ _ (0, 0) hw.2.1
    have y2 := cell_of_row _ _ 2 _ _ (0, 0) hw.2.1
    have y3 := cell_of_row _ _ 3 _ _ (0, 0) hw.2.1
    have y4 := cell_of_row _ _ 4 _ _ (0, 0) hw.2.1
    clear hw
    go_simp
  try simp only [Act.put, List.setIfInBounds_toArray, List.set_cons_zero, List.set_cons_succ]
  refine LooseD.calls _ 14 #[.agg #[.int .i64 st, .int .i64 ru, .slice An n cn, .slice At_ lt ct, .slice Ap np cp]] rfl rfl ?_ (fun w hw _ => null_told g HFT.out HSD.out _ w _ (HCP.out w (HV6.out.trans (hw.1.mono HV6.out.size)))) (fun v4 => ?_)
  · intro w hw
    clear hw
    go_simp
  try simp only [Act.put, List.setIfInBounds_toArray, List.set_cons_zero, List.set_cons_succ]
  refine LooseD.reads (.agg #[.int .i64 st, .int .i64 ru, .slice Bn n dn, .slice Bt lt dt, .slice Bp np dp]) rfl rfl ?_ ?_
  · intro w hw
    have y0 := cell_of_row _ _ 0 _ _ (0, 0) hw.2.2
    have y1 := cell_of_row _ _ 1 _ _ (0, 0) hw.2.2
    have y2 := cell_of_row _ _ 2 _ _ (0, 0) hw.2.2
    have y3 := cell_of_row _ _ 3 _ _ (0, 0) hw.2.2
    have y4 := cell_of_row _ _ 4 _ _ (0, 0) hw.2.2
    clear hw
    go_simp
  try simp only [Act.put, List.setIfInBounds_toArray, List.set_cons_zero, List.set_cons_succ]
  refine LooseD.calls _ 15 #[.agg #[.int .i64 st, .int .i64 ru, .slice Bn n dn, .slice Bt lt dt, .slice Bp np dp]] rfl rfl ?_ (fun w hw _ => nulR_told g HSN.out _ w _ (HCU.out w (HV6.out.trans (hw.1.mono HV6.out.size)))) (fun v5 => ?_)
  · intro w hw
    clear hw
    go_simp
  try simp only [Act.put, List.setIfInBounds_toArray, List.set_cons_zero, List.set_cons_succ]
  refine LooseD.gives (.bool true) 13 #[v4, v5] rfl rfl ?_ (fun w hw hH => by
    obtain ⟨l, hl, k1, k2⟩ := nul_same (hH 1 (by decide) v4 _ rfl rfl) (hH 3 (by decide) v5 _ rfl rfl)
    exact bools_any l (by rw [hl, ← HNN.out]; omega) _ _ w v4 v5 k1 k2) ?_
  · intro w hw
    clear hw
    go_simp
  try simp only [Act.put, List.setIfInBounds_toArray, List.set_cons_zero, List.set_cons_succ]
  refine LooseD.reads (.bool false) rfl rfl ?_ ?_
  · intro w hw
    clear hw
    go_simp
  try simp only [Act.put, List.setIfInBounds_toArray, List.set_cons_zero, List.set_cons_succ]
  refine LooseD.reads (.bool false) rfl rfl ?_ ?_
  · intro w hw
    clear hw
    go_simp
  try simp only [Act.put, List.setIfInBounds_toArray, List.set_cons_zero, List.set_cons_succ]
  refine LooseD.reads (.slice (some ⟨b1, 0, none⟩) n c1) rfl rfl ?_ ?_
  · intro w hw
    clear hw
    go_simp
  try simp only [Act.put, List.setIfInBounds_toArray, List.set_cons_zero, List.set_cons_succ]
  refine LooseD.reads (.int .i64 n) rfl rfl ?_ ?_
  · intro w hw
    clear hw
    go_simp
  try simp only [Act.put, List.setIfInBounds_toArray, List.set_cons_zero, List.set_cons_succ]
  refine LooseD.reads (.slice (some ⟨b2, 0, none⟩) n c2) rfl rfl ?_ ?_
  · intro w hw
    clear hw
    go_simp
  try simp only [Act.put, List.setIfInBounds_toArray, List.set_cons_zero, List.set_cons_succ]
  refine LooseD.reads (.int .i64 n) rfl rfl ?_ ?_
  · intro w hw
    clear hw
    go_simp
  try simp only [Act.put, List.setIfInBounds_toArray, List.set_cons_zero, List.set_cons_succ]
  refine LooseD.reads (.bool false) rfl rfl ?_ ?_
  · intro w hw
    clear hw
    go_simp
  try simp only [Act.put, List.setIfInBounds_toArray, List.set_cons_zero, List.set_cons_succ]
  refine LooseD.reads (.bool false) rfl rfl ?_ ?_
  · intro w hw
    clear hw
    go_simp
  try simp only [Act.put, List.setIfInBounds_toArray, List.set_cons_zero, List.set_cons_succ]
  refine LooseD.reads (.bool false) rfl rfl ?_ ?_
  · intro w hw
    clear hw
    go_simp
  try simp only [Act.put, List.setIfInBounds_toArray, List.set_cons_zero, List.set_cons_succ]
  refine LooseD.reads (.slice (some ⟨b3, 0, none⟩) n c3) rfl rfl ?_ ?_
  · intro w hw
    clear hw
    go_simp
  try simp only [Act.put, List.setIfInBounds_toArray, List.set_cons_zero, List.set_cons_succ]
  refine LooseD.reads (.int .i64 n) rfl rfl ?_ ?_
  · intro w hw
    clear hw
    go_simp
  try simp only [Act.put, List.setIfInBounds_toArray, List.set_cons_zero, List.set_cons_succ]
  refine LooseD.reads (.slice (some ⟨b2, 0, none⟩) n c2) rfl rfl ?_ ?_
  · intro w hw
    clear hw
    go_simp
  try simp only [Act.put, List.setIfInBounds_toArray, List.set_cons_zero, List.set_cons_succ]
  refine LooseD.reads (.int .i64 n) rfl rfl ?_ ?_
  · intro w hw
    clear hw
    go_simp
  try simp only [Act.put, List.setIfInBounds_toArray, List.set_cons_zero, List.set_cons_succ]
  refine LooseD.reads (.bool false) rfl rfl ?_ ?_
  · intro w hw
    clear hw
    go_simp
  try simp only [Act.put, List.setIfInBounds_toArray, List.set_cons_zero, List.set_cons_succ]
  refine LooseD.reads (.bool false) rfl rfl ?_ ?_
  · intro w hw
    clear hw
    go_simp
  try simp only [Act.put, List.setIfInBounds_toArray, List.set_cons_zero, List.set_cons_succ]
  refine LooseD.done ?_
  intro w7 hw7 _
  have HB7 := Lib.hid (HB2.out.trans ((HBX.out.1.trans ((HV6.out.trans (hw7.1.mono HV6.out.size)).mono HBX.out.1.size)).mono HB2.out.size))
  have HD7 := Lib.hid hw7.1
  have HE7 := Lib.hid (HB6.out.trans (hw7.1.mono HB6.out.size))
  clear hw7
  go_wp2_with fail
  go_loopw [8] (fun i wr => ∃ k : Nat, k ≤ n ∧ i = .int .i64 k ∧ Below w7.heap.size w7 wr) (fun i _ => n - (intOf i).toNat)
  case atStart => exact ⟨0, Nat.zero_le _, rfl, Below.refl _ _⟩
  case round =>
    obtain ⟨k, hk, rfl, hb⟩ := hrel
    have HB := Lib.hid hb
    by_cases hlt : k < n
    · have hlt2 : (k : Int) < (n : Int) := by omega
      have hb6 := HD7.out.trans (hb.mono HD7.out.size)
      have hb5 := HE7.out.trans (hb.mono HE7.out.size)
      have y1 := (hb5.cell (p := ⟨b1, k, none⟩) HLB.out.1).trans (HT1.out k hlt)
      have y2 := (hb5.cell (p := ⟨b2, k, none⟩) HLB.out.2).trans (HT2.out k hlt)
      have y3 := (hb6.cell (p := ⟨b3, k, none⟩) HL3.out).trans (HT3.out k hlt)
      have hx : -1 ≤ L.getD k (-1) := by
        rw [List.getD_eq_getElem?_getD, List.getElem?_eq_getElem (by rw [HLN.out]; exact hlt)]
        exact (HLO.out _ (List.getElem_mem _)).1
      obtain ⟨x, hxe⟩ : ∃ x, x = L.getD k (-1) := ⟨_, rfl⟩
      rw [← hxe] at y1 y2 y3 hx
      clear hxe hb hb5 hb6
      by_cases hx0 : x = -1
      · subst hx0
        have y3 : wr.cell? ⟨b3, k, none⟩ = some (.bool false) := y3
        go_wp2_with fail
        go_quiet (fail)
        go_wp2_with fail
        go_roundw
        case rel => exact ⟨k + 1, by omega, by simp, Gn.below_drewN HB.out _⟩
        case measure => simp [intOf]; omega
      · have e1 : (x != -1) = true := by rw [bne_iff_ne]; exact hx0
        rw [e1] at y3
        have e2 : x ≥ 0 := by omega
        clear e1
        go_wp2_with fail
        go_quiet (fail)
        go_wp2_with fail
        go_roundw
        case rel => exact ⟨k + 1, by omega, by simp, Gn.below_drewN HB.out _⟩
        case measure => simp [intOf]; omega
    · have hke : n = k := by omega
      subst hke
      have hlt2 : ¬ ((n : Nat) : Int) < ((n : Nat) : Int) := by omega
      clear hb
      go_wp2_with fail
      go_ret
      exact ⟨rfl, HB7.out.trans (HB.out.mono HB7.out.size)⟩
end Go.Proofs.Ytlkijnglpllcdaa.Fx
