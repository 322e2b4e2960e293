/-
  Layer 14: the walks of fits and Check.
-/
import Derived.Test.YtdknlifpoihnmaaTrC
namespace Go.Proofs.Ytdknlifpoihnmaa.Tr
open Go.RowKit
open Gn (Asks)
open Fx (IntsAt StrsAt Prd PG PrdsAt PgAt PgBox soundB sound_any)
set_option maxRecDepth 100000
set_option linter.unusedSimpArgs false
set_option linter.unusedVariables false

theorem rootT_lt {g : PG} {n : Int} (h : (rootT g n).2 = true) : n < (g.prods.length : Int) := by
  unfold rootT at h
  split at h
  · omega
  · split at h
    · omega
    · cases h
set_option maxHeartbeats 8000000 in
theorem fits_any (g : PG) (hf : Fit g) {t : Tr} (hs : SmT t) : FitCtr g t := by
  have hmf : ∀ (fn : Fn) (first cap : Array Value) (w : World), (Instr.makeFunc fn first cap).run Try.prog w = .ok (.func fn first cap) w := fun _ _ _ _ => rfl
  induction hs with
  | mk n l hlen hl ih =>
  intro P Q W x y v h hg
  obtain ⟨rfl, hk⟩ := h.open_
  have hk0 := hk
  obtain ⟨A, cap, r, a, b, rfl, hq9⟩ := hk0
  clear hq9
  obtain ⟨An, At_, Ap, cn, ct, cp, rfl, hN, hT, hP⟩ := hg.open_
  have hb1 := (Below.refl W.heap.size W).alloc (Nat.le_refl _) (.cells #[.int .i64 g.start, .int .i64 g.rules, .slice An g.names.length cn, .slice At_ g.terms.length ct, .slice Ap g.prods.length cp] 31)
  have hb2 := hb1.alloc (by simp) (.cells #[.int .i64 n, .slice A l.length cap] 39)
  have hx1 := (heap_alloc_old _ (.cells #[.int .i64 n, .slice A l.length cap] 39) (by simp)).trans (heap_alloc_new W (.cells #[.int .i64 g.start, .int .i64 g.rules, .slice An g.names.length cn, .slice At_ g.terms.length ct, .slice Ap g.prods.length cp] 31))
  have hx2 := heap_alloc_new (W.alloc (.cells #[.int .i64 g.start, .int .i64 g.rules, .slice An g.names.length cn, .slice At_ g.terms.length ct, .slice Ap g.prods.length cp] 31)) (.cells #[.int .i64 n, .slice A l.length cap] 39)
  rw [Gn.size_alloc'] at hx2
  have HPB := Lib.hid (show PgBox Q ((W.alloc (.cells #[.int .i64 g.start, .int .i64 g.rules, .slice An g.names.length cn, .slice At_ g.terms.length ct, .slice Ap g.prods.length cp] 31)).alloc (.cells #[.int .i64 n, .slice A l.length cap] 39)) g W.heap.size from ⟨_, hx1, hg.under hb2⟩)
  have HKR := Lib.hid (fun w (bw : Below W.heap.size W w) => rootOf_any g hf Q w _ (hg.under bw) n)
  have HKS := Lib.hid (fun w (bw : Below W.heap.size W w) hn => side_any g hf Q w _ (hg.under bw) n hn)
  have HKE := Lib.hid (fun w (bw : Below W.heap.size W w) (hb : PgBox Q w g W.heap.size) u (hu : IntsAt Q w (sideT g n) u) => equal_kids g hf l (sideT g n) ih P Q w _ u W.heap.size (hk.under bw) hu hb hlen)
  have HB2 := Lib.hid hb2
  have HX1 := Lib.hid hx1
  have HX2 := Lib.hid hx2
  rw [fitsT]
  have hrl := fun h => rootT_lt (g := g) (n := n) h
  generalize fitsL g l (sideT g n) = R at HKE ⊢
  generalize rootT g n = rt at HKR hrl ⊢
  obtain ⟨ri, rb⟩ := rt
  simp only at HKR hrl ⊢
  have HRL := Lib.hid hrl
  clear h hg hN hT hP hb1 hb2 hx1 hx2 hk ih hl hlen hrl
  generalize hm : l.length = m at *
  generalize hln : g.names.length = ln at *
  generalize hlt : g.terms.length = lt at *
  generalize hlp : g.prods.length = lp at *
  generalize hst : g.start = st at *
  generalize hru : g.rules = ru at *
  clear hm hln hlt hlp hst hru
  go_enter Try.func37, Try.ntmps37
  go_upto_region 1 with fail
  generalize hV : World.alloc (World.alloc W _) _ = V
  rw [hV] at HB2 HX1 HX2 HPB
  clear hV
  have b0 := cell_of_row _ _ 0 _ _ (0, 0) HX1.out
  have b1 := cell_of_row _ _ 1 _ _ (0, 0) HX1.out
  have b2 := cell_of_row _ _ 2 _ _ (0, 0) HX1.out
  have b3 := cell_of_row _ _ 3 _ _ (0, 0) HX1.out
  have b4 := cell_of_row _ _ 4 _ _ (0, 0) HX1.out
  have t0 := cell_of_row _ _ 0 _ _ (0, 0) HX2.out
  have t1 := cell_of_row _ _ 1 _ _ (0, 0) HX2.out
  go_wp2_with fail
  refine (HKR.out _ HB2.out).mono ?_
  rintro e w3 ⟨rfl, bw3⟩
  have HB3 := Lib.hid (HB2.out.trans (bw3.mono HB2.out.size))
  have HX31 := Lib.hid ((bw3.block _ (Gn.heap_lt HX1.out)).trans HX1.out)
  have HX32 := Lib.hid ((bw3.block _ (Gn.heap_lt HX2.out)).trans HX2.out)
  have HPB3 := Lib.hid (HPB.out.under bw3)
  clear bw3 b0 b1 b2 b3 b4 t0 t1
  cases rb
  · go_wp2_with fail
    go_ret
    exact ⟨rfl, HB3.out⟩
  · have hnp := HRL.out rfl
    have HNP := Lib.hid hnp
    clear hnp
    go_wp2_with fail
    refine LooseD.region_loose (fun w' => Below w3.heap.size w3 w' ∧ w'.heap[W.heap.size]? = some (.cells #[.int .i64 st, .int .i64 ru, .slice An ln cn, .slice At_ lt ct, .slice Ap lp cp] 31 (0, 0)) ∧ w'.heap[W.heap.size + 1]? = some (.cells #[.int .i64 n, .slice A m cap] 39 (0, 0))) _ _ (by kernel_rfl) (by kernel_rfl)
      (LooseD.waits (D := [[], [], [], [], [], [], [], [5], []]) (by kernel_rfl))
      (LooseD.stays (ts := [none, none, none, none, none, some (.told (fun u w => IntsAt Q w (sideT g n) u)), none, some (.is (.bool R)), none]) (fun w w' h b => ⟨h.1.trans (b.mono h.1.size), (b.block _ (Gn.heap_lt h.2.1)).trans h.2.1, (b.block _ (Gn.heap_lt h.2.2)).trans h.2.2⟩) (.none (.none (.none (.none (.none (.told (fun v w w' h b => h.under b) (.none (.is (.none .nil))))))))))
      ⟨(Below.refl _ _).drew, HX31.out, HX32.out⟩ ?_
    refine LooseD.reads (.pointer (some ⟨W.heap.size + 1, 1, none⟩)) rfl rfl ?_ ?_
    · intro w hw
      clear hw
      go_simp
    try simp only [Act.put, List.setIfInBounds_toArray, List.set_cons_zero, List.set_cons_succ]
    refine LooseD.reads (.slice A m cap) rfl rfl ?_ ?_
    · intro w hw
      have z0 := cell_of_row _ _ 0 _ _ (0, 0) hw.2.2
      have z1 := cell_of_row _ _ 1 _ _ (0, 0) hw.2.2
      clear hw
      go_simp
    try simp only [Act.put, List.setIfInBounds_toArray, List.set_cons_zero, List.set_cons_succ]
    refine LooseD.reads (.agg #[.int .i64 st, .int .i64 ru, .slice An ln cn, .slice At_ lt ct, .slice Ap lp cp]) rfl rfl ?_ ?_
    · intro w hw
      have y0 := cell_of_row _ _ 0 _ _ (0, 0) hw.2.1
      have y1 := cell_of_row _ _ 1 _ _ (0, 0) hw.2.1
      have y2 := cell_of_row _ _ 2 _ _ (0, 0) hw.2.1
      have y3 := cell_of_row _ _ 3 _ _ (0, 0) hw.2.1
      have y4 := cell_of_row _ _ 4 _ _ (0, 0) hw.2.1
      clear hw
      go_simp
    try simp only [Act.put, List.setIfInBounds_toArray, List.set_cons_zero, List.set_cons_succ]
    refine LooseD.reads (.pointer (some ⟨W.heap.size + 1, 0, none⟩)) rfl rfl ?_ ?_
    · intro w hw
      clear hw
      go_simp
    try simp only [Act.put, List.setIfInBounds_toArray, List.set_cons_zero, List.set_cons_succ]
    refine LooseD.reads (.int .i64 n) rfl rfl ?_ ?_
    · intro w hw
      have z0 := cell_of_row _ _ 0 _ _ (0, 0) hw.2.2
      have z1 := cell_of_row _ _ 1 _ _ (0, 0) hw.2.2
      clear hw
      go_simp
    try simp only [Act.put, List.setIfInBounds_toArray, List.set_cons_zero, List.set_cons_succ]
    refine LooseD.calls _ 63 #[.agg #[.int .i64 st, .int .i64 ru, .slice An ln cn, .slice At_ lt ct, .slice Ap lp cp], .int .i64 n] rfl rfl ?_ (fun w hw _ => (HKS.out w (HB3.out.trans (hw.1.mono HB3.out.size)) HNP.out).mono fun e w' ⟨u, h1, h2, h3⟩ => ⟨u, h1, h2, h3⟩) (fun v5 => ?_)
    · intro w hw
      clear hw
      go_simp
    try simp only [Act.put, List.setIfInBounds_toArray, List.set_cons_zero, List.set_cons_succ]
    refine LooseD.reads (.func (.func 64) #[] #[.pointer (some ⟨W.heap.size, 0, none⟩)]) rfl rfl ?_ ?_
    · intro w hw
      clear hw
      go_simp
    try simp only [Act.put, List.setIfInBounds_toArray, List.set_cons_zero, List.set_cons_succ]
    refine LooseD.gives (.bool R) 62 #[.slice A m cap, v5, .func (.func 64) #[] #[.pointer (some ⟨W.heap.size, 0, none⟩)]] rfl rfl ?_ (fun w hw hH => HKE.out w (HB3.out.trans (hw.1.mono HB3.out.size)) (HPB3.out.under hw.1) v5 (hH 5 (by decide) v5 _ rfl rfl)) ?_
    · intro w hw
      clear hw
      go_simp
    try simp only [Act.put, List.setIfInBounds_toArray, List.set_cons_zero, List.set_cons_succ]
    refine LooseD.reads (.bool R) rfl rfl ?_ ?_
    · intro w hw
      clear hw
      go_simp
    try simp only [Act.put, List.setIfInBounds_toArray, List.set_cons_zero, List.set_cons_succ]
    refine LooseD.done ?_
    intro w7 hw7 hF
    have HB7 := Lib.hid (HB3.out.trans (hw7.1.mono HB3.out.size))
    clear hw7 hF
    go_wp2_with fail
    go_ret
    exact ⟨by cases R <;> rfl, HB7.out⟩

/-- Is it a tree of the grammar's? -/
def checkB (g : PG) (t : Tr) : Bool := soundB g && fitsT g t
set_option maxHeartbeats 4000000 in
theorem check_any (g : PG) (hfit : g.Fits) (hf : Fit g) {t : Tr} (hs : SmT t) (P Q : Nat → Prop) (W : World) (x y v : Value) (h : TrAt P W t x y) (hg : PgAt Q W g v) :
    Calls Try.prog 14 #[v, .agg #[x, y]] W (Asks (checkB g t) W) := by
  obtain ⟨n, A, m, cap, rfl, rfl⟩ := h.form
  obtain ⟨An, At_, Ap, cn, ct, cp, rfl, hN, hT, hP⟩ := hg.open_
  have hb1 := (Below.refl W.heap.size W).alloc (Nat.le_refl _) (.cells #[.int .i64 g.start, .int .i64 g.rules, .slice An g.names.length cn, .slice At_ g.terms.length ct, .slice Ap g.prods.length cp] 31)
  have hb2 := hb1.alloc (by simp) (.cells #[.int .i64 n, .slice A m cap] 39)
  have hx1 := (heap_alloc_old _ (.cells #[.int .i64 n, .slice A m cap] 39) (by simp)).trans (heap_alloc_new W (.cells #[.int .i64 g.start, .int .i64 g.rules, .slice An g.names.length cn, .slice At_ g.terms.length ct, .slice Ap g.prods.length cp] 31))
  have hx2 := heap_alloc_new (W.alloc (.cells #[.int .i64 g.start, .int .i64 g.rules, .slice An g.names.length cn, .slice At_ g.terms.length ct, .slice Ap g.prods.length cp] 31)) (.cells #[.int .i64 n, .slice A m cap] 39)
  rw [Gn.size_alloc'] at hx2
  have HKS := Lib.hid (fun w (bw : Below W.heap.size W w) => sound_any g hfit Q w _ (hg.under bw))
  have HKF := Lib.hid (fun w (bw : Below W.heap.size W w) => fits_any g hf hs P Q w _ _ _ (h.under bw) (hg.under bw))
  have HB2 := Lib.hid hb2
  have HX1 := Lib.hid hx1
  have HX2 := Lib.hid hx2
  unfold checkB
  generalize soundB g = sb at HKS ⊢
  generalize fitsT g t = R at HKF ⊢
  clear h hg hN hT hP hb1 hb2 hx1 hx2 hs
  generalize hln : g.names.length = ln at *
  generalize hlt : g.terms.length = lt at *
  generalize hlp : g.prods.length = lp at *
  generalize hst : g.start = st at *
  generalize hru : g.rules = ru at *
  clear hln hlt hlp hst hru
  go_enter Try.func14, Try.ntmps14
  go_upto_region 1 with fail
  generalize hV : World.alloc (World.alloc W _) _ = V
  rw [hV] at HB2 HX1 HX2
  clear hV
  have b0 := cell_of_row _ _ 0 _ _ (0, 0) HX1.out
  have b1 := cell_of_row _ _ 1 _ _ (0, 0) HX1.out
  have b2 := cell_of_row _ _ 2 _ _ (0, 0) HX1.out
  have b3 := cell_of_row _ _ 3 _ _ (0, 0) HX1.out
  have b4 := cell_of_row _ _ 4 _ _ (0, 0) HX1.out
  go_wp2_with fail
  refine (HKS.out _ HB2.out).mono ?_
  rintro e w3 ⟨rfl, bw3⟩
  have HB3 := Lib.hid (HB2.out.trans (bw3.mono HB2.out.size))
  have hx31 := (bw3.block _ (Gn.heap_lt HX1.out)).trans HX1.out
  have hx32 := (bw3.block _ (Gn.heap_lt HX2.out)).trans HX2.out
  have c0 := cell_of_row _ _ 0 _ _ (0, 0) hx31
  have c1 := cell_of_row _ _ 1 _ _ (0, 0) hx31
  have c2 := cell_of_row _ _ 2 _ _ (0, 0) hx31
  have c3 := cell_of_row _ _ 3 _ _ (0, 0) hx31
  have c4 := cell_of_row _ _ 4 _ _ (0, 0) hx31
  have t0 := cell_of_row _ _ 0 _ _ (0, 0) hx32
  have t1 := cell_of_row _ _ 1 _ _ (0, 0) hx32
  clear bw3 b0 b1 b2 b3 b4 hx31 hx32
  cases sb
  · go_wp2_with fail
    go_ret
    exact ⟨rfl, HB3.out⟩
  · go_wp2_with fail
    refine (HKF.out _ HB3.out).mono ?_
    rintro e w4 ⟨rfl, bw4⟩
    have HB4 := Lib.hid (HB3.out.trans (bw4.mono HB3.out.size))
    go_wp2_with fail
    go_ret
    exact ⟨by cases R <;> rfl, HB4.out⟩
end Go.Proofs.Ytdknlifpoihnmaa.Tr
