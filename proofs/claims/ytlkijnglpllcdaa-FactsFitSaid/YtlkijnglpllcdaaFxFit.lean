/-
  FactsFit: what the five calls tell of a grammar of made's fits.
-/
import Derived.Test.YtlkijnglpllcdaaFxMadeW
import Derived.Test.YtlkijnglpllcdaaFxTold
namespace Go.Proofs.Ytlkijnglpllcdaa.Fx
open Go.RowKit
set_option maxRecDepth 100000
set_option linter.unusedSimpArgs false
set_option linter.unusedVariables false

/-- What the five calls have told, in memory. -/
structure FitAt (g : PG) (L : List Int) (n B b1 b2 b3 b4 b5 : Nat) (cs : Array Value) (vp : Value) (F : Nat → Value) (R : Nat → List Int) (D : Nat → Bool) (W : World) : Prop where
  box : W.heap[B]? = some (.cells cs 30 (0, 0))
  null : ∀ i, i < n → W.cell? ⟨b1, i, none⟩ = some (.bool (L.getD i (-1) == 0))
  gen : ∀ i, i < n → W.cell? ⟨b2, i, none⟩ = some (.bool (L.getD i (-1) != -1))
  len : ∀ i, i < n → W.cell? ⟨b3, i, none⟩ = some (.int .i64 (L.getD i (-1)))
  fst : ∀ i, i < n → W.cell? ⟨b4, i, none⟩ = some (F i) ∧ ∃ A c, F i = .slice A (R i).length c
  rch : ∀ i, i < n → W.cell? ⟨b5, i, none⟩ = some (.bool (D i))
  lt : b1 < W.heap.size ∧ b2 < W.heap.size ∧ b3 < W.heap.size ∧ b4 < W.heap.size ∧ b5 < W.heap.size
  prods : PrdsAt (fun _ => True) W g.prods vp
theorem FitAt.under {g : PG} {L : List Int} {n B b1 b2 b3 b4 b5 : Nat} {cs : Array Value} {vp : Value} {F : Nat → Value} {R : Nat → List Int} {D : Nat → Bool} {W W' : World} (h : FitAt g L n B b1 b2 b3 b4 b5 cs vp F R D W) (b : Below W.heap.size W W') : FitAt g L n B b1 b2 b3 b4 b5 cs vp F R D W' := by
  obtain ⟨l1, l2, l3, l4, l5⟩ := h.lt
  have hs := b.size
  exact ⟨(b.block _ (Gn.heap_lt h.box)).trans h.box, fun i hi => (b.cell (p := ⟨b1, i, none⟩) l1).trans (h.null i hi), fun i hi => (b.cell (p := ⟨b2, i, none⟩) l2).trans (h.gen i hi), fun i hi => (b.cell (p := ⟨b3, i, none⟩) l3).trans (h.len i hi),
    fun i hi => ⟨(b.cell (p := ⟨b4, i, none⟩) l4).trans (h.fst i hi).1, (h.fst i hi).2⟩, fun i hi => (b.cell (p := ⟨b5, i, none⟩) l5).trans (h.rch i hi), ⟨by omega, by omega, by omega, by omega, by omega⟩, h.prods.under b⟩

set_option maxHeartbeats 8000000 in
theorem walk_fit (N T St : Int) (left : List Int) (right : List (List Int)) (W : World) (vl vr : Value) (hl : NumsIn W left vl) (hr : RowsIn W right vr) (hlm : left.length ≤ maxLen) (hrm : right.length ≤ maxLen) (hrm2 : ∀ r ∈ right, r.length ≤ maxLen) :
    Calls Try.prog 5 #[.agg #[.int .i64 N, .int .i64 T, .int .i64 St, vl, vr]] W fun e w' => e = .returned (.bool true) ∧ Below W.heap.size W w' := by
  have HM := Lib.hid (fun w (b : Below W.heap.size W w) => made_any N T St left right w vl vr (hl.under b) (hr.under b) hlm hrm hrm2)
  have HS := Lib.hid (fun w => speaks_any w)
  obtain ⟨A, c, _, _, rfl, _⟩ := hl
  obtain ⟨Ar, cr, _, _, _, rfl, _⟩ := hr
  obtain ⟨nl, hnl⟩ : ∃ nl, nl = left.length := ⟨_, rfl⟩
  obtain ⟨nr, hnr⟩ : ∃ nr, nr = right.length := ⟨_, rfl⟩
  rw [← hnl, ← hnr] at HM ⊢
  clear hnl hnr hlm hrm hrm2
  have hb0 := (Below.refl W.heap.size W).alloc (Nat.le_refl _) (.cells #[.int .i64 N, .int .i64 T, .int .i64 St, .slice A nl c, .slice Ar nr cr] 25)
  have hx0 := heap_alloc_new W (.cells #[.int .i64 N, .int .i64 T, .int .i64 St, .slice A nl c, .slice Ar nr cr] 25)
  have HB0 := Lib.hid hb0
  have HX0 := Lib.hid hx0
  clear hb0 hx0
  go_enter Try.func5, Try.ntmps5
  go_wp2_with fail
  refine (HS.out _).mono ?_
  rintro e w1 ⟨rfl, b1⟩
  have hb1 := HB0.out.trans (b1.mono HB0.out.size)
  have hx1 := (b1.block W.heap.size (by simp)).trans HX0.out
  have HB1 := Lib.hid hb1
  have x0 := cell_of_row _ _ 0 _ _ (0, 0) hx1
  have x1 := cell_of_row _ _ 1 _ _ (0, 0) hx1
  have x2 := cell_of_row _ _ 2 _ _ (0, 0) hx1
  have x3 := cell_of_row _ _ 3 _ _ (0, 0) hx1
  have x4 := cell_of_row _ _ 4 _ _ (0, 0) hx1
  clear hb1 hx1 b1
  go_wp2_with fail
  refine (HM.out _ HB1.out).mono ?_
  rintro e w2 ⟨v, u, g, rfl, hM, hv, hu, b2⟩
  have hv' := hv
  obtain ⟨An, At_, Ap, cn, ct, cp, rfl, _, _, hP⟩ := hv'.open_
  obtain ⟨Bn, Bt, Bp, dn, dt, dp, rfl, _, _, _⟩ := hu.open_
  have HMD := Lib.hid hM
  have HV := Lib.hid hv
  have HP := Lib.hid hP
  have HB2 := Lib.hid (HB1.out.trans (b2.mono HB1.out.size))
  clear hM hv hv' hu b2 hP
  have HF : g.Fits := HMD.out.fits g.start
  have hsd : soundB g = true := by have := HMD.out.sound g.start; rw [show g.from_ g.start = g from rfl] at this; rw [this, decide_eq_true_iff]; exact HMD.out.start
  have HSD := Lib.hid hsd
  have HFT := Lib.hid HF
  have hn1 := HMD.out.few.1
  have hn8 := HMD.out.few.2.1
  have hnp := HMD.out.few.2.2.2
  obtain ⟨n, hn⟩ : ∃ n, n = g.names.length := ⟨_, rfl⟩
  obtain ⟨np, hnp'⟩ : ∃ np, np = g.prods.length := ⟨_, rfl⟩
  have HNN := Lib.hid hn
  have HNP := Lib.hid hnp'
  obtain ⟨st, hst⟩ : ∃ st : Nat, g.start = (st : Int) := ⟨g.start.toNat, by have := HMD.out.start.1; omega⟩
  have hstn : st < n := by have := HMD.out.start.2; omega
  have HST := Lib.hid hst
  rw [← hn] at hn1 hn8 ⊢
  rw [← hnp'] at hnp ⊢
  obtain ⟨lt, hlt⟩ : ∃ lt, lt = g.terms.length := ⟨_, rfl⟩
  rw [← hlt]
  rw [hst]
  have HV2 := Lib.hid (show PgAt (fun q => w1.heap.size ≤ q) w2 g (.agg #[.int .i64 st, .int .i64 g.rules, .slice An n cn, .slice At_ lt ct, .slice Ap np cp]) by rw [hn, hnp', hlt, ← hst]; exact HV.out)
  have HP2 := Lib.hid (show PrdsAt (fun q => w1.heap.size ≤ q) w2 g.prods (.slice Ap np cp) by rw [hnp']; exact HP.out)
  obtain ⟨ru, hru⟩ : ∃ ru, ru = g.rules := ⟨_, rfl⟩
  rw [← hru] at HV2 ⊢
  clear HF hsd hn hnp' hlt hst HV HP hru
  go_wp2_with fail

  have HBX := Lib.hid (⟨((Below.refl w2.heap.size w2).alloc (Nat.le_refl _) _).alloc (by simp) _, (heap_alloc_old _ _ (by simp)).trans (heap_alloc_new w2 _)⟩ : Below w2.heap.size w2 ((w2.alloc (.cells #[.int .i64 st, .int .i64 ru, .slice An n cn, .slice At_ lt ct, .slice Ap np cp] 30)).alloc (.cells #[.int .i64 st, .int .i64 ru, .slice Bn n dn, .slice Bt lt dt, .slice Bp np dp] 33)) ∧ ((w2.alloc (.cells #[.int .i64 st, .int .i64 ru, .slice An n cn, .slice At_ lt ct, .slice Ap np cp] 30)).alloc (.cells #[.int .i64 st, .int .i64 ru, .slice Bn n dn, .slice Bt lt dt, .slice Bp np dp] 33)).heap[w2.heap.size]? = some (.cells #[.int .i64 st, .int .i64 ru, .slice An n cn, .slice At_ lt ct, .slice Ap np cp] 30 (0, 0)))
  generalize hV : World.alloc (World.alloc w2 _) _ = V
  rw [hV] at HBX
  clear hV
  have HCP := Lib.hid (fun (w : World) (h : Below V.heap.size V w) => (HV2.out.under (HBX.out.1.trans (h.mono HBX.out.1.size))))
  refine Loose.region_loose (fun w => Below V.heap.size V w ∧ w.heap[w2.heap.size]? = some (.cells #[.int .i64 st, .int .i64 ru, .slice An n cn, .slice At_ lt ct, .slice Ap np cp] 30 (0, 0))) _ (by kernel_rfl) (by kernel_rfl)
    (Loose.stays (ts := [none, some (tNull g), none, some (tGen g), none, some (tLen g), none, some (tFst g), none, some (tRch g)]) (fun w w' h b => ⟨h.1.trans (b.mono h.1.size), (b.block _ (Gn.heap_lt h.2)).trans h.2⟩) (.none (.some (tNull_st g) (.none (.some (tGen_st g) (.none (.some (tLen_st g) (.none (.some (tFst_st g) (.none (.some (tRch_st g) .nil)))))))))))
    ⟨(Below.refl _ _).drew, HBX.out.2⟩ ?_

  refine Loose.reads (.agg #[.int .i64 st, .int .i64 ru, .slice An n cn, .slice At_ lt ct, .slice Ap np cp]) rfl rfl ?_ ?_
  · intro w hw
    have y0 := cell_of_row _ _ 0 _ _ (0, 0) hw.2
    have y1 := cell_of_row _ _ 1 _ _ (0, 0) hw.2
    have y2 := cell_of_row _ _ 2 _ _ (0, 0) hw.2
    have y3 := cell_of_row _ _ 3 _ _ (0, 0) hw.2
    have y4 := cell_of_row _ _ 4 _ _ (0, 0) hw.2
    clear hw
    go_simp
  try simp only [Act.put, List.setIfInBounds_toArray, List.set_cons_zero, List.set_cons_succ]
  refine Loose.calls _ 14 #[.agg #[.int .i64 st, .int .i64 ru, .slice An n cn, .slice At_ lt ct, .slice Ap np cp]] rfl rfl ?_ (fun w hw => null_told g HFT.out HSD.out _ w _ (HCP.out w hw.1)) (fun v1 => ?_)
  · intro w hw
    clear hw
    go_simp
  try simp only [Act.put, List.setIfInBounds_toArray, List.set_cons_zero, List.set_cons_succ]
  refine Loose.reads (.agg #[.int .i64 st, .int .i64 ru, .slice An n cn, .slice At_ lt ct, .slice Ap np cp]) rfl rfl ?_ ?_
  · intro w hw
    have y0 := cell_of_row _ _ 0 _ _ (0, 0) hw.2
    have y1 := cell_of_row _ _ 1 _ _ (0, 0) hw.2
    have y2 := cell_of_row _ _ 2 _ _ (0, 0) hw.2
    have y3 := cell_of_row _ _ 3 _ _ (0, 0) hw.2
    have y4 := cell_of_row _ _ 4 _ _ (0, 0) hw.2
    clear hw
    go_simp
  try simp only [Act.put, List.setIfInBounds_toArray, List.set_cons_zero, List.set_cons_succ]
  refine Loose.calls _ 12 #[.agg #[.int .i64 st, .int .i64 ru, .slice An n cn, .slice At_ lt ct, .slice Ap np cp]] rfl rfl ?_ (fun w hw => gen_told g HFT.out HSD.out _ w _ (HCP.out w hw.1)) (fun v2 => ?_)
  · intro w hw
    clear hw
    go_simp
  try simp only [Act.put, List.setIfInBounds_toArray, List.set_cons_zero, List.set_cons_succ]
  refine Loose.reads (.agg #[.int .i64 st, .int .i64 ru, .slice An n cn, .slice At_ lt ct, .slice Ap np cp]) rfl rfl ?_ ?_
  · intro w hw
    have y0 := cell_of_row _ _ 0 _ _ (0, 0) hw.2
    have y1 := cell_of_row _ _ 1 _ _ (0, 0) hw.2
    have y2 := cell_of_row _ _ 2 _ _ (0, 0) hw.2
    have y3 := cell_of_row _ _ 3 _ _ (0, 0) hw.2
    have y4 := cell_of_row _ _ 4 _ _ (0, 0) hw.2
    clear hw
    go_simp
  try simp only [Act.put, List.setIfInBounds_toArray, List.set_cons_zero, List.set_cons_succ]
  refine Loose.calls _ 10 #[.agg #[.int .i64 st, .int .i64 ru, .slice An n cn, .slice At_ lt ct, .slice Ap np cp]] rfl rfl ?_ (fun w hw => len_told g HFT.out HSD.out _ w _ (HCP.out w hw.1)) (fun v3 => ?_)
  · intro w hw
    clear hw
    go_simp
  try simp only [Act.put, List.setIfInBounds_toArray, List.set_cons_zero, List.set_cons_succ]
  refine Loose.reads (.agg #[.int .i64 st, .int .i64 ru, .slice An n cn, .slice At_ lt ct, .slice Ap np cp]) rfl rfl ?_ ?_
  · intro w hw
    have y0 := cell_of_row _ _ 0 _ _ (0, 0) hw.2
    have y1 := cell_of_row _ _ 1 _ _ (0, 0) hw.2
    have y2 := cell_of_row _ _ 2 _ _ (0, 0) hw.2
    have y3 := cell_of_row _ _ 3 _ _ (0, 0) hw.2
    have y4 := cell_of_row _ _ 4 _ _ (0, 0) hw.2
    clear hw
    go_simp
  try simp only [Act.put, List.setIfInBounds_toArray, List.set_cons_zero, List.set_cons_succ]
  refine Loose.calls _ 16 #[.agg #[.int .i64 st, .int .i64 ru, .slice An n cn, .slice At_ lt ct, .slice Ap np cp]] rfl rfl ?_ (fun w hw => fst_told g HFT.out HSD.out _ w _ (HCP.out w hw.1)) (fun v4 => ?_)
  · intro w hw
    clear hw
    go_simp
  try simp only [Act.put, List.setIfInBounds_toArray, List.set_cons_zero, List.set_cons_succ]
  refine Loose.reads (.agg #[.int .i64 st, .int .i64 ru, .slice An n cn, .slice At_ lt ct, .slice Ap np cp]) rfl rfl ?_ ?_
  · intro w hw
    have y0 := cell_of_row _ _ 0 _ _ (0, 0) hw.2
    have y1 := cell_of_row _ _ 1 _ _ (0, 0) hw.2
    have y2 := cell_of_row _ _ 2 _ _ (0, 0) hw.2
    have y3 := cell_of_row _ _ 3 _ _ (0, 0) hw.2
    have y4 := cell_of_row _ _ 4 _ _ (0, 0) hw.2
    clear hw
    go_simp
  try simp only [Act.put, List.setIfInBounds_toArray, List.set_cons_zero, List.set_cons_succ]
  refine Loose.calls _ 18 #[.agg #[.int .i64 st, .int .i64 ru, .slice An n cn, .slice At_ lt ct, .slice Ap np cp]] rfl rfl ?_ (fun w hw => rch_told g HFT.out HSD.out _ w _ (HCP.out w hw.1)) (fun v5 => ?_)
  · intro w hw
    clear hw
    go_simp
  try simp only [Act.put, List.setIfInBounds_toArray, List.set_cons_zero, List.set_cons_succ]
  refine Loose.reads v1 rfl rfl ?_ ?_
  · intro w hw
    clear hw
    go_simp
  try simp only [Act.put, List.setIfInBounds_toArray, List.set_cons_zero, List.set_cons_succ]
  refine Loose.reads v2 rfl rfl ?_ ?_
  · intro w hw
    clear hw
    go_simp
  try simp only [Act.put, List.setIfInBounds_toArray, List.set_cons_zero, List.set_cons_succ]
  refine Loose.reads v3 rfl rfl ?_ ?_
  · intro w hw
    clear hw
    go_simp
  try simp only [Act.put, List.setIfInBounds_toArray, List.set_cons_zero, List.set_cons_succ]
  refine Loose.reads v4 rfl rfl ?_ ?_
  · intro w hw
    clear hw
    go_simp
  try simp only [Act.put, List.setIfInBounds_toArray, List.set_cons_zero, List.set_cons_succ]
  refine Loose.reads v5 rfl rfl ?_ ?_
  · intro w hw
    clear hw
    go_simp
  try simp only [Act.put, List.setIfInBounds_toArray, List.set_cons_zero, List.set_cons_succ]
  refine Loose.done ?_
  intro w5 hw5 hF
  obtain ⟨⟨⟨⟨⟨_, t1⟩, t2⟩, t3⟩, t4⟩, t5⟩ := hF
  obtain ⟨L, hL, t1⟩ := t1
  obtain ⟨L2, hL2, t2⟩ := t2
  obtain rfl := least_unique hL hL2
  obtain ⟨L3, hL3, t3⟩ := t3
  obtain rfl := least_unique hL hL3
  obtain ⟨L4, hL4, b4, F, R, rfl, r4, t4⟩ := t4
  obtain rfl := least_unique hL hL4
  obtain ⟨b5, D, rfl, r5, t5⟩ := t5
  obtain ⟨hll, hlo⟩ := runs_ok hL.runs
  obtain ⟨b1, c1, rfl, hc1, l1, t1⟩ := bools_cells t1 (by rw [hll, ← HNN.out]; omega)
  obtain ⟨b2, c2, rfl, hc2, l2, t2⟩ := bools_cells t2 (by rw [hll, ← HNN.out]; omega)
  obtain ⟨b3, c3, rfl, hc3, l3, t3⟩ := ints_cells t3 (by rw [hll, ← HNN.out]; omega)
  have hln : L.length = n := by rw [hll, HNN.out]
  rw [hln] at hc1 hc2 hc3 t1 t2 t3 ⊢
  rw [← HNN.out] at r4 r5 t4 t5 ⊢
  have HA5 := Lib.hid (show FitAt g L n w2.heap.size b1 b2 b3 b4 b5 _ (.slice Ap np cp) F R D w5 from ⟨hw5.2, t1, t2, t3, fun i hi => ⟨r4.cell hi, (t4 i hi).1⟩, fun i hi => r5.cell hi, ⟨l1, l2, l3, r4.lt, r5.lt⟩, (HP2.out.under (HBX.out.1.trans (hw5.1.mono HBX.out.1.size))).keep (Nat.le_refl _) (fun _ _ _ => ⟨trivial, fun _ => rfl⟩)⟩)
  have HB5 := Lib.hid (HB2.out.trans ((HBX.out.1.trans (hw5.1.mono HBX.out.1.size)).mono HB2.out.size))
  have HT4 := Lib.hid (fun i hi => (t4 i hi).2)
  have HT5 := Lib.hid t5
  have HL := Lib.hid hL
  have HLO := Lib.hid hlo
  have HLN := Lib.hid hln
  clear hw5 hL hL2 hL3 hL4 hll hlo hln t1 t2 t3 t4 t5 r4 r5 l1 l2 l3 HV2 HP2 HCP HBX
  go_wp2_with fail
  go_loopw [10] (fun i wr => ∃ k : Nat, k ≤ n ∧ i = .int .i64 k ∧ FitAt g L n w2.heap.size b1 b2 b3 b4 b5 #[.int .i64 st, .int .i64 ru, .slice An n cn, .slice At_ lt ct, .slice Ap np cp] (.slice Ap np cp) F R D wr ∧ Below W.heap.size W wr) (fun i _ => n - (intOf i).toNat)
  case atStart => exact ⟨0, Nat.zero_le _, rfl, HA5.out, HB5.out⟩
  case round =>
    obtain ⟨k, hk, rfl, hA, hb⟩ := hrel
    have HA := Lib.hid hA
    have HB := Lib.hid hb
    have z2 : wr.cell? ⟨w2.heap.size, 2, none⟩ = some (.slice An n cn) := cell_of_row _ _ 2 _ _ (0, 0) hA.box
    clear hA hb
    by_cases hlt : k < n
    · have hlt2 : (k : Int) < (n : Int) := by omega
      have y1 := HA.out.null k hlt
      have y2 := HA.out.gen k hlt
      have y3 := HA.out.len k hlt
      have y4 := (HA.out.fst k hlt).1
      obtain ⟨Af, cf, hf⟩ := (HA.out.fst k hlt).2
      rw [hf] at y4
      have y5 := HA.out.rch k hlt
      have hx : -1 ≤ L.getD k (-1) := by
        rw [List.getD_eq_getElem?_getD, List.getElem?_eq_getElem (by rw [HLN.out]; exact hlt)]
        exact (HLO.out _ (List.getElem_mem _)).1
      have hfs := fun h => fit_first HL.out (a := k) h (HT4.out k hlt)
      have hfn := fun h => fit_none HL.out (a := k) h (HT4.out k hlt)
      obtain ⟨x, hxe⟩ : ∃ x, x = L.getD k (-1) := ⟨_, rfl⟩
      rw [← hxe] at y1 y2 y3 hx hfs hfn
      clear hxe hf
      rcases (show x = -1 ∨ x = 0 ∨ 0 < x by omega) with rfl | rfl | hx0
      · have hz : R k = [] := hfn rfl
        rw [hz] at y4
        have y1 : wr.cell? ⟨b1, k, none⟩ = some (.bool false) := y1
        have y2 : wr.cell? ⟨b2, k, none⟩ = some (.bool false) := y2
        clear hfs hfn hx hz
        go_wp2_with fail
        go_quiet (fail)
        go_wp2_with fail
        go_roundw
        case rel => exact ⟨k + 1, by omega, by simp, HA.out.under (Gn.below_drewN (Below.refl _ _) _), Gn.below_drewN HB.out _⟩
        case measure => simp [intOf]; omega
      · have y1 : wr.cell? ⟨b1, k, none⟩ = some (.bool true) := y1
        have y2 : wr.cell? ⟨b2, k, none⟩ = some (.bool true) := y2
        clear hfs hfn hx
        go_wp2_with fail
        go_quiet (fail)
        go_wp2_with fail
        go_roundw
        case rel => exact ⟨k + 1, by omega, by simp, HA.out.under (Gn.below_drewN (Below.refl _ _) _), Gn.below_drewN HB.out _⟩
        case measure => simp [intOf]; omega
      · have hm := List.length_pos_iff.2 (hfs hx0)
        obtain ⟨m, hme⟩ : ∃ m, m = (R k).length := ⟨_, rfl⟩
        rw [← hme] at y4 hm
        have hm0 : ((m : Int) == 0) = false := by rw [beq_eq_false_iff_ne]; omega
        have e1 : (x == 0) = false := by rw [beq_eq_false_iff_ne]; omega
        have e2 : (x != -1) = true := by rw [bne_iff_ne]; omega
        rw [e1] at y1
        rw [e2] at y2
        have e3 : x ≥ 0 := by omega
        have e4 : x > 0 := by omega
        clear hfs hfn hx hme e2
        go_wp2_with fail
        go_quiet (fail)
        go_wp2_with fail
        go_roundw
        case rel => exact ⟨k + 1, by omega, by simp, HA.out.under (Gn.below_drewN (Below.refl _ _) _), Gn.below_drewN HB.out _⟩
        case measure => simp [intOf]; omega
    · have hke : n = k := by omega
      subst hke
      go_wp2_with fail
      go_loopw [11] (fun i wr => ∃ k : Nat, k ≤ np ∧ i = .int .i64 k ∧ FitAt g L n w2.heap.size b1 b2 b3 b4 b5 #[.int .i64 st, .int .i64 ru, .slice An n cn, .slice At_ lt ct, .slice Ap np cp] (.slice Ap np cp) F R D wr ∧ Below W.heap.size W wr) (fun i _ => np - (intOf i).toNat)
      case atStart => exact ⟨0, Nat.zero_le _, rfl, HA.out, HB.out⟩
      case round =>
        obtain ⟨k, hk, rfl, hA, hb⟩ := hrel
        have HA := Lib.hid hA
        have HB := Lib.hid hb
        have z0 : wr.cell? ⟨w2.heap.size, 0, none⟩ = some (.int .i64 st) := cell_of_row _ _ 0 _ _ (0, 0) hA.box
        have z4 : wr.cell? ⟨w2.heap.size, 4, none⟩ = some (.slice Ap np cp) := cell_of_row _ _ 4 _ _ (0, 0) hA.box
        clear hA hb
        by_cases hlt : k < np
        · have hlt2 : (k : Int) < (np : Int) := by omega
          have hpl : k < g.prods.length := by rw [← HNP.out]; exact hlt
          obtain ⟨A', cap', bp, f, e1, _, e3, e4⟩ := HA.out.prods
          injection e1 with e1 e6 e5
          subst e1
          subst e5
          clear e6
          obtain ⟨eA, hbp, _⟩ := e3 (by omega)
          subst eA
          obtain ⟨q0, q1, qi⟩ := e4 k hpl
          have hmem : g.prods[k] ∈ g.prods := List.getElem_mem hpl
          obtain ⟨lf0, lf1⟩ := HMD.out.left _ hmem
          have hsh := HMD.out.short _ hmem
          have hkn := HMD.out.known _ hmem
          rw [← HNN.out] at lf1 hkn
          obtain ⟨p, hp⟩ : ∃ p, p = g.prods[k] := ⟨_, rfl⟩
          rw [← hp] at q0 qi hmem lf0 lf1 hsh hkn
          obtain ⟨q, hq⟩ : ∃ q : Nat, p.left = (q : Int) := ⟨p.left.toNat, by omega⟩
          have hqn : q < n := by omega
          rw [hq] at q0
          obtain ⟨Ax, cx, bx, hx, _, hx3, hx4⟩ := qi
          rw [hx] at q1
          obtain ⟨m, hm⟩ : ∃ m, m = p.right.length := ⟨_, rfl⟩
          rw [← hm] at q1 hx3 hsh
          have HQC := Lib.hid (⟨q0, q1⟩ : wr.cell? ⟨bp, k * 2, none⟩ = some (.int .i64 q) ∧ wr.cell? ⟨bp, k * 2 + 1, none⟩ = some (.slice Ax m cx))
          have HX3 := Lib.hid hx3
          have HX4 := Lib.hid hx4
          have HM := Lib.hid hm
          have HKN := Lib.hid hkn
          have HMEM := Lib.hid hmem
          have HQ := Lib.hid hq
          have HRC : D q = true → ∀ s ∈ p.right, ∀ j : Nat, s = (j : Int) → D j = true := fun hd s hs j hj => by
            have hj2 : j < n := by have := (hkn s hs).2; omega
            have := fit_reach hmem hq hs ((HT5.out q hqn).1 hd)
            rw [hj] at this
            exact (HT5.out j hj2).2 this
          have HRC := Lib.hid HRC
          have HFS := Lib.hid (fun ho => fit_sum HL.out hmem ho)
          have hqi2 : (q : Int) < (n : Int) := by omega
          have hbpl : bp < wr.heap.size := hbp
          clear hp hmem lf0 lf1 hkn hx hx3 hx4 hm hq q0 q1 e4 e3
          obtain ⟨wo, rfl⟩ : ∃ wo : World, wo = wr := ⟨_, rfl⟩
          go_wp2_with fail
          go_loopw [12, 13, 14] (fun nn ok kk wr => ∃ j : Nat, j ≤ m ∧ kk = .int .i64 j ∧ nn = .int .i64 (sumW L (p.right.take j)) ∧ ok = .bool (okB L (p.right.take j)) ∧ Below wo.heap.size wo wr) (fun _ _ kk _ => m - (intOf kk).toNat)
          case atStart => exact ⟨0, Nat.zero_le _, rfl, rfl, rfl, Below.refl _ _⟩
          case round =>
            obtain ⟨j, hj, rfl, rfl, rfl, hb3⟩ := hrel
            have HA3 := Lib.hid (HA.out.under hb3)
            have HB3 := Lib.hid hb3
            have z4 : wr.cell? ⟨w2.heap.size, 4, none⟩ = some (.slice (some ⟨bp, 0, none⟩) np cp) := cell_of_row _ _ 4 _ _ (0, 0) HA3.out.box
            have q0 := (hb3.cell (p := ⟨bp, k * 2, none⟩) hbpl).trans HQC.out.1
            have q1 := (hb3.cell (p := ⟨bp, k * 2 + 1, none⟩) hbpl).trans HQC.out.2
            have hso := sumW_ok HLO.out (p.right.take j)
            have hsl : (p.right.take j).length ≤ 6 := by rw [List.length_take]; omega
            obtain ⟨sj, hsj⟩ : ∃ sj, sj = sumW L (p.right.take j) := ⟨_, rfl⟩
            obtain ⟨oj, hoj⟩ : ∃ oj, oj = okB L (p.right.take j) := ⟨_, rfl⟩
            rw [← hsj] at hso
            rw [← hsj, ← hoj]
            have HSJ := Lib.hid hsj
            have HOJ := Lib.hid hoj
            clear hb3 hsj hoj
            by_cases hjm : j < m
            · have hjm2 : (j : Int) < (m : Int) := by omega
              have hjl : j < p.right.length := by rw [← HM.out]; exact hjm
              obtain ⟨eX, hxb, _⟩ := HX3.out (by omega)
              subst eX
              have q2 := (HB3.out.cell (p := ⟨bx, j, none⟩) hxb).trans (HX4.out j hjl)
              have hsm : p.right[j] ∈ p.right := List.getElem_mem hjl
              have hks := HKN.out _ hsm
              have HTK := Lib.hid (show p.right.take (j + 1) = p.right.take j ++ [p.right[j]] from List.take_succ_eq_append_getElem hjl)
              obtain ⟨s, hs⟩ : ∃ s, s = p.right[j] := ⟨_, rfl⟩
              rw [← hs] at q2 hsm hks HTK
              have HSM := Lib.hid hsm
              have HSS := Lib.hid (show sumW L (p.right.take (j + 1)) = sj + wOf L s by rw [HTK.out, sumW_snoc, ← HSJ.out])
              have HSO := Lib.hid (show okB L (p.right.take (j + 1)) = (oj && (decide (s < 0) || (L.getD s.toNat (-1) != -1))) by rw [HTK.out, okB_snoc, ← HOJ.out])
              clear hs hsm
              have hrk : (p.right.take j).length * 1099511627776 ≤ 6 * 1099511627776 := by omega
              by_cases hs0 : s < 0
              · have hw1 : IntKind.i64.wrap (sj + 1) = sj + 1 := IntWalk.i64_in _ (by omega)
                have HE := Lib.hid (show sumW L (p.right.take (j + 1)) = sj + 1 by rw [HSS.out]; unfold wOf; rw [if_pos hs0])
                have HO := Lib.hid (show okB L (p.right.take (j + 1)) = oj by rw [HSO.out, decide_eq_true hs0]; simp)
                go_wp2_with fail
                go_roundw
                case rel => exact ⟨j + 1, by omega, by simp, by rw [HE.out], by rw [HO.out], HB3.out⟩
                case measure => simp [intOf]; omega
              · obtain ⟨t, ht⟩ : ∃ t : Nat, s = (t : Int) := ⟨s.toNat, by omega⟩
                have htn : t < n := by omega
                have y2 := HA3.out.gen t htn
                have y3 := HA3.out.len t htn
                have y5 := HA3.out.rch t htn
                have y5q := HA3.out.rch q hqn
                have hrc : D q = true → D t = true := fun hd => HRC.out hd s HSM.out t ht
                have hxb : -1 ≤ L.getD t (-1) ∧ L.getD t (-1) ≤ 1099511627776 := by
                  rw [List.getD_eq_getElem?_getD, List.getElem?_eq_getElem (by rw [HLN.out]; exact htn)]
                  exact HLO.out _ (List.getElem_mem _)
                have HE := Lib.hid (show sumW L (p.right.take (j + 1)) = sj + max (L.getD t (-1)) 0 by rw [HSS.out]; unfold wOf; rw [if_neg hs0, ht]; rfl)
                have HO := Lib.hid (show okB L (p.right.take (j + 1)) = (oj && (L.getD t (-1) != -1)) by rw [HSO.out, decide_eq_false hs0, ht]; rfl)
                obtain ⟨x, hxe⟩ : ∃ x, x = L.getD t (-1) := ⟨_, rfl⟩
                rw [← hxe] at y2 y3 hxb HE HO
                have hw1 : IntKind.i64.wrap (sj + max x 0) = sj + max x 0 := IntWalk.i64_in _ (by omega)
                have hgx : ∃ gx, gx = (x != -1) := ⟨_, rfl⟩
                obtain ⟨gx, hgx⟩ := hgx
                rw [← hgx] at y2 HO
                subst ht
                have ht2 : (t : Int) < (n : Int) := by omega
                clear hxe hs0 hgx
                have hs0 : ¬ ((t : Nat) : Int) < 0 := by omega
                have R1 := Lib.hid (fun (w : World) (h : w = wr) => HB3.out)
                rcases hdq : D q with _ | _
                · rw [hdq] at y5q
                  clear hrc hdq
                  cases oj
                  · go_wp2_with fail
                    go_roundw
                    case rel => exact ⟨j + 1, by omega, by simp, by rw [HE.out], by rw [HO.out]; rfl, HB3.out⟩
                    case measure => simp [intOf]; omega
                  · go_wp2_with fail
                    go_roundw
                    case rel => exact ⟨j + 1, by omega, by simp, by rw [HE.out], by rw [HO.out]; rfl, HB3.out⟩
                    case measure => simp [intOf]; omega
                · rw [hdq] at y5q
                  rw [hrc hdq] at y5
                  clear hrc hdq
                  cases oj
                  · go_wp2_with fail
                    go_roundw
                    case rel => exact ⟨j + 1, by omega, by simp, by rw [HE.out], by rw [HO.out]; rfl, HB3.out⟩
                    case measure => simp [intOf]; omega
                  · go_wp2_with fail
                    go_roundw
                    case rel => exact ⟨j + 1, by omega, by simp, by rw [HE.out], by rw [HO.out]; rfl, HB3.out⟩
                    case measure => simp [intOf]; omega
            · have hje : m = j := by omega
              subst hje
              have hjm2 : ¬ ((m : Nat) : Int) < ((m : Nat) : Int) := by omega
              have HT := Lib.hid (show p.right.take m = p.right by rw [HM.out, List.take_length])
              cases oj
              · go_wp2_with fail
                go_roundw
                case rel => exact ⟨k + 1, by omega, by simp, HA3.out, HB.out.trans (HB3.out.mono HB.out.size)⟩
                case measure => simp [intOf]; omega
              · have hfs := HFS.out (by rw [← HT.out, ← HOJ.out])
                rw [HQ.out, ← HT.out, ← HSJ.out] at hfs
                have y2 := HA3.out.gen q hqn
                have y3 := HA3.out.len q hqn
                obtain ⟨x, hxe⟩ : ∃ x, x = L.getD q (-1) := ⟨_, rfl⟩
                rw [show (q : Int).toNat = q from rfl, ← hxe] at hfs
                rw [← hxe] at y2 y3
                have e1 : (x != -1) = true := by rw [bne_iff_ne]; exact hfs.1
                rw [e1] at y2
                have hgt : ¬ x > sj := by omega
                clear hxe e1
                go_wp2_with fail
                go_roundw
                case rel => exact ⟨k + 1, by omega, by simp, HA3.out, HB.out.trans (HB3.out.mono HB.out.size)⟩
                case measure => simp [intOf]; omega
        · have hke : np = k := by omega
          subst hke
          have hlt2 : ¬ ((np : Nat) : Int) < ((np : Nat) : Int) := by omega
          have y5 := HA.out.rch st hstn
          have hds : D st = true := (HT5.out st hstn).2 (by rw [HST.out]; exact .base _ (by simp))
          rw [hds] at y5
          have hst2 : (st : Int) < (n : Int) := by omega
          clear hds
          go_wp2_with fail
          go_ret
          exact ⟨rfl, HB.out⟩
end Go.Proofs.Ytlkijnglpllcdaa.Fx
