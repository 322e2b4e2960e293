/-
  Layer 21: GetReply, the program's.
-/
import Derived.Test.YtbkfbejbloclgaaCmR2
namespace Go.Proofs.Ytbkfbejbloclgaa.Cm
open Go.RowKit
open Oct (pb bs Strs rInt rText rTexts rErr rEnd At Sep Gives strV OutSt OSep app eInt eText eTexts eLen rng)
open Lx (goodB)
open Gn (Asks)
open Mk (gm canon)
set_option maxRecDepth 100000
set_option linter.unusedSimpArgs false
set_option linter.unusedVariables false

theorem set7 {w : World} {b : Nat} {T : TypeId} {z0 z1 z2 z3 z4 z5 z6 : Value} (h : w.heap[b]? = some (.cells #[z0, z1, z2, z3, z4, z5, z6] T (0, 0))) (v0 v1 v2 v3 v4 v5 v6 : Value) :
    (((((((w.setCell ⟨b, 0, none⟩ (v0)).setCell ⟨b, 1, none⟩ (v1)).setCell ⟨b, 2, none⟩ (v2)).setCell ⟨b, 3, none⟩ (v3)).setCell ⟨b, 4, none⟩ (v4)).setCell ⟨b, 5, none⟩ (v5)).setCell ⟨b, 6, none⟩ (v6)).heap[b]? = some (.cells #[v0, v1, v2, v3, v4, v5, v6] T (0, 0)) := by
  have h := Gn.heap_set h 0 v0
  rw [show (#[z0, z1, z2, z3, z4, z5, z6] : Array Value).setIfInBounds 0 v0 = #[v0, z1, z2, z3, z4, z5, z6] from rfl] at h
  have h := Gn.heap_set h 1 v1
  rw [show (#[v0, z1, z2, z3, z4, z5, z6] : Array Value).setIfInBounds 1 v1 = #[v0, v1, z2, z3, z4, z5, z6] from rfl] at h
  have h := Gn.heap_set h 2 v2
  rw [show (#[v0, v1, z2, z3, z4, z5, z6] : Array Value).setIfInBounds 2 v2 = #[v0, v1, v2, z3, z4, z5, z6] from rfl] at h
  have h := Gn.heap_set h 3 v3
  rw [show (#[v0, v1, v2, z3, z4, z5, z6] : Array Value).setIfInBounds 3 v3 = #[v0, v1, v2, v3, z4, z5, z6] from rfl] at h
  have h := Gn.heap_set h 4 v4
  rw [show (#[v0, v1, v2, v3, z4, z5, z6] : Array Value).setIfInBounds 4 v4 = #[v0, v1, v2, v3, v4, z5, z6] from rfl] at h
  have h := Gn.heap_set h 5 v5
  rw [show (#[v0, v1, v2, v3, v4, z5, z6] : Array Value).setIfInBounds 5 v5 = #[v0, v1, v2, v3, v4, v5, z6] from rfl] at h
  have h := Gn.heap_set h 6 v6
  rw [show (#[v0, v1, v2, v3, v4, v5, z6] : Array Value).setIfInBounds 6 v6 = #[v0, v1, v2, v3, v4, v5, v6] from rfl] at h
  exact h
theorem below7 {W w : World} {b : Nat} (hb : W.heap.size ≤ b) (h : Below W.heap.size W w) (v0 v1 v2 v3 v4 v5 v6 : Value) : Below W.heap.size W (((((((w.setCell ⟨b, 0, none⟩ (v0)).setCell ⟨b, 1, none⟩ (v1)).setCell ⟨b, 2, none⟩ (v2)).setCell ⟨b, 3, none⟩ (v3)).setCell ⟨b, 4, none⟩ (v4)).setCell ⟨b, 5, none⟩ (v5)).setCell ⟨b, 6, none⟩ (v6)) := (((((((h.setCell hb v0).setCell hb v1).setCell hb v2).setCell hb v3).setCell hb v4).setCell hb v5).setCell hb v6)
theorem cell7 {w : World} {b r : Nat} (hr : r ≠ b) (v0 v1 v2 v3 v4 v5 v6 : Value) : (((((((w.setCell ⟨b, 0, none⟩ (v0)).setCell ⟨b, 1, none⟩ (v1)).setCell ⟨b, 2, none⟩ (v2)).setCell ⟨b, 3, none⟩ (v3)).setCell ⟨b, 4, none⟩ (v4)).setCell ⟨b, 5, none⟩ (v5)).setCell ⟨b, 6, none⟩ (v6)).heap[r]? = w.heap[r]? := by
  have hne : b ≠ r := fun e => hr e.symm
  repeat rw [Gn.set_keep _ _ _ hne]
theorem endC_false {T : TypeId} {w : World} {g : Nat} {r : Oct.Rest} (h : At T w g r) : endC false r ≠ 0 := by
  cases r with
  | error e => exact h.1
  | ok l => show (2 : Nat) ≠ 0; decide

set_option maxHeartbeats 16000000 in
theorem getr_any (s : ByteArray) (hs : s.size ≤ 9223372036854775807) (W : World) :
    Calls Try.prog 22 #[.string s] W (RepOut W (getR (bs s))) := by
  obtain ⟨V2, hV2⟩ : ∃ V2, V2 = (W.alloc (.cells #[.int .i64 0, .int .i64 0, .int .i64 0, .int .i64 0, .string ⟨#[]⟩, .slice none 0 0, .slice none 0 0] 46)).alloc (.cells #[.string s, .int .i64 0] 107) := ⟨_, rfl⟩
  have hb : Below W.heap.size W V2 := by rw [hV2]; exact ((Below.refl _ W).alloc (Nat.le_refl _) _).alloc (by simp) _
  have hx0 : V2.heap[W.heap.size]? = some (.cells #[.int .i64 0, .int .i64 0, .int .i64 0, .int .i64 0, .string ⟨#[]⟩, .slice none 0 0, .slice none 0 0] 46 (0, 0)) := by rw [hV2]; exact (heap_alloc_old _ _ (by simp)).trans (heap_alloc_new W _)
  have hx1 : V2.heap[W.heap.size + 1]? = some (.cells #[.string s, .int .i64 0] 107 (0, 0)) := by
    rw [hV2]; have := heap_alloc_new (W.alloc (.cells #[.int .i64 0, .int .i64 0, .int .i64 0, .int .i64 0, .string ⟨#[]⟩, .slice none 0 0, .slice none 0 0] 46)) (.cells #[.string s, .int .i64 0] 107); simpa using this
  have HR0 := Lib.hid (show Rd 107 46 #[.int .i64 0, .int .i64 0, .int .i64 0, .int .i64 0, .string ⟨#[]⟩, .slice none 0 0, .slice none 0 0] W V2 (.ok (bs s)) from ⟨hb, hx0, ⟨s, rfl, hs, hx1⟩⟩)
  obtain ⟨r0, hr0⟩ : ∃ r, r = (.ok (bs s) : Oct.Rest) := ⟨_, rfl⟩
  rw [← hr0] at HR0
  have HG := Lib.hid (show getR (bs s) = if (readR r0).err = 0 then ((readR r0).rep, 0) else (zeroR, (readR r0).err) by rw [hr0]; rfl)
  have HFT := Lib.hid (readR_fits r0)
  have HV2 := Lib.hid hV2
  clear hb hx0 hx1 hV2 hr0 hs
  obtain ⟨k0, r1, e0⟩ : ∃ k r, rInt r0 = (k, r) := ⟨_, _, rfl⟩
  obtain ⟨k1, r2, e1⟩ : ∃ k r, rInt r1 = (k, r) := ⟨_, _, rfl⟩
  obtain ⟨k2, r3, e2⟩ : ∃ k r, rInt r2 = (k, r) := ⟨_, _, rfl⟩
  obtain ⟨k3, r4, e3⟩ : ∃ k r, rInt r3 = (k, r) := ⟨_, _, rfl⟩
  obtain ⟨tx, r5, e4⟩ : ∃ k r, rText r4 = (k, r) := ⟨_, _, rfl⟩
  obtain ⟨ts, r6, e5⟩ : ∃ k r, rTexts 4096 r5 = (k, r) := ⟨_, _, rfl⟩
  obtain ⟨zs, rz, e6⟩ : ∃ k r, rTexts 4096 r6 = (k, r) := ⟨_, _, rfl⟩
  have hzl : zs.length ≤ 65536 := by have := rTexts_len 4096 r6; rwa [e6] at this
  have HRC := Lib.hid (show readR r0 = ⟨k0, k1, k2, k3, tx, ts, zs, rz⟩ by
    unfold readR
    rw [e0]
    dsimp only
    rw [e1]
    dsimp only
    rw [e2]
    dsimp only
    rw [e3]
    dsimp only
    rw [e4]
    dsimp only
    rw [e5]
    dsimp only
    rw [e6])
  rw [HRC.out] at HG HFT
  unfold Q7.err Q7.rep at HG
  unfold Q7.rep at HFT
  dsimp only at HG HFT
  obtain ⟨stx, h4⟩ : ∃ x, x = mkS tx := ⟨_, rfl⟩
  rw [← h4] at HG HFT
  have HI0 := Lib.hid (fun (w : World) (h : At 107 w (W.heap.size + 1) r0) => (show Calls Try.prog 39 #[.pointer (some ⟨W.heap.size + 1, 0, none⟩)] w (Gives 107 w (W.heap.size + 1) (.int .i64 k0) r1) by have := Oct.int_in_any _ _ _ h; rw [e0] at this; exact this))
  have HI1 := Lib.hid (fun (w : World) (h : At 107 w (W.heap.size + 1) r1) => (show Calls Try.prog 39 #[.pointer (some ⟨W.heap.size + 1, 0, none⟩)] w (Gives 107 w (W.heap.size + 1) (.int .i64 k1) r2) by have := Oct.int_in_any _ _ _ h; rw [e1] at this; exact this))
  have HI2 := Lib.hid (fun (w : World) (h : At 107 w (W.heap.size + 1) r2) => (show Calls Try.prog 39 #[.pointer (some ⟨W.heap.size + 1, 0, none⟩)] w (Gives 107 w (W.heap.size + 1) (.int .i64 k2) r3) by have := Oct.int_in_any _ _ _ h; rw [e2] at this; exact this))
  have HI3 := Lib.hid (fun (w : World) (h : At 107 w (W.heap.size + 1) r3) => (show Calls Try.prog 39 #[.pointer (some ⟨W.heap.size + 1, 0, none⟩)] w (Gives 107 w (W.heap.size + 1) (.int .i64 k3) r4) by have := Oct.int_in_any _ _ _ h; rw [e3] at this; exact this))
  have HI4 := Lib.hid (fun (w : World) (h : At 107 w (W.heap.size + 1) r4) => (show Calls Try.prog 40 #[.pointer (some ⟨W.heap.size + 1, 0, none⟩)] w (Gives 107 w (W.heap.size + 1) (.string stx) r5) by have := Oct.text_in_any _ _ _ h; rw [e4] at this; rw [h4]; exact this))
  have HI5 := Lib.hid (fun (w : World) (h : At 107 w (W.heap.size + 1) r5) => (show Calls Try.prog 41 #[.pointer (some ⟨W.heap.size + 1, 0, none⟩), .int .i64 4096] w (Oct.GivesStrs 107 w (W.heap.size + 1) (ts, r6)) by have := Oct.texts_in_any _ 4096 _ _ h; rw [e5] at this; exact this))
  have HI6 := Lib.hid (fun (w : World) (h : At 107 w (W.heap.size + 1) r6) => (show Calls Try.prog 41 #[.pointer (some ⟨W.heap.size + 1, 0, none⟩), .int .i64 4096] w (Oct.GivesStrs 107 w (W.heap.size + 1) (zs, rz)) by have := Oct.texts_in_any _ 4096 _ _ h; rw [e6] at this; exact this))
  clear e0 e1 e2 e3 e4 e5 e6 h4 HRC
  go_enter Try.func22, Try.ntmps22
  go_wp2_with fail
  refine (Oct.open_any s _).mono ?_
  rintro e w1 ⟨rfl, rfl⟩
  go_upto_region 2 with fail
  rw [← HV2.out]
  go_wp2_with fail
  refine (HI0.out _ HR0.out.inn).mono ?_
  rintro e w2 ⟨rfl, ha, hs⟩
  have HR1 := Lib.hid (HR0.out.sep hs ha)
  clear ha hs
  go_wp2_with fail
  refine (HI1.out _ HR1.out.inn).mono ?_
  rintro e w3 ⟨rfl, ha, hs⟩
  have HR2 := Lib.hid (HR1.out.sep hs ha)
  clear ha hs
  go_wp2_with fail
  refine (HI2.out _ HR2.out.inn).mono ?_
  rintro e w4 ⟨rfl, ha, hs⟩
  have HR3 := Lib.hid (HR2.out.sep hs ha)
  clear ha hs
  go_wp2_with fail
  refine (HI3.out _ HR3.out.inn).mono ?_
  rintro e w5 ⟨rfl, ha, hs⟩
  have HR4 := Lib.hid (HR3.out.sep hs ha)
  clear ha hs
  go_wp2_with fail
  refine (HI4.out _ HR4.out.inn).mono ?_
  rintro e w6 ⟨rfl, ha, hs⟩
  have HR5 := Lib.hid (HR4.out.sep hs ha)
  clear ha hs
  go_wp2_with fail
  refine (HI5.out _ HR5.out.inn).mono ?_
  rintro e w7 ⟨A, cap, rfl, hown, ha, hs⟩
  dsimp only at hown ha
  have HR6 := Lib.hid (HR5.out.sep hs ha)
  obtain ⟨n, hn⟩ : ∃ n, n = ts.length := ⟨_, rfl⟩
  dsimp only
  rw [← hn] at hown ⊢
  obtain ⟨U, hU⟩ : ∃ U, U = w7.alloc (.cells #[.int .i64 k0, .int .i64 k1, .int .i64 k2, .int .i64 k3, .string stx, .slice A n cap, .slice none 0 0] 46) := ⟨_, rfl⟩
  have hbU : Below w7.heap.size w7 U := by rw [hU]; exact (Below.refl _ _).alloc (Nat.le_refl _) _
  have hxU : U.heap[w7.heap.size]? = some (.cells #[.int .i64 k0, .int .i64 k1, .int .i64 k2, .int .i64 k3, .string stx, .slice A n cap, .slice none 0 0] 46 (0, 0)) := by rw [hU]; exact heap_alloc_new _ _
  have hownU : U.ownsRow w6.heap.size 9 1 (.slice A n cap) n (ts.map strV) := by rw [hU]; exact hown.alloc _
  obtain ⟨g, hg⟩ : ∃ g, g = w7.heap.size := ⟨_, rfl⟩
  rw [← hg] at hxU
  have HGL := Lib.hid (show W.heap.size + 1 < g by have := HR6.out.lt; omega)
  have HRU := Lib.hid (HR6.out.under hbU)
  have HXU := Lib.hid hxU
  have HOU := Lib.hid hownU
  have HU := Lib.hid hU
  have HGE := Lib.hid hg
  have HN := Lib.hid hn
  clear ha hs hown hbU hxU hownU hU hg hn
  go_upto_region 3 with fail
  rw [← HU.out, ← HGE.out]
  go_wp2_with fail
  refine (HI6.out _ HRU.out.inn).mono ?_
  rintro e u1 ⟨A2, cap2, rfl, hown, ha, hs⟩
  dsimp only at hown ha
  have HRA := Lib.hid (HRU.out.sep hs ha)
  have HXA := Lib.hid ((hs.block g (Gn.heap_lt HXU.out) (by have := HGL.out; omega)).trans HXU.out)
  have HOA := Lib.hid (Oct.Sep.own hs HOU.out (HRU.out.inn.cells).choose_spec.choose_spec (by decide))
  have HSZ := Lib.hid (strs_own hown)
  clear hown ha hs
  have HMK := Lib.hid (getMarks_any A2 zs.length cap2 zs u1 HSZ.out hzl)
  dsimp only
  go_wp2_with fail
  refine HMK.out.mono ?_
  rintro e u2 ⟨A3, cap3, rfl, hown3, hb3⟩
  have HRB := Lib.hid (HRA.out.under hb3)
  have HXB := Lib.hid ((hb3.block _ (Gn.heap_lt HXA.out)).trans HXA.out)
  have HOB := Lib.hid (own_below HOA.out hb3)
  have HMO := Lib.hid hown3
  obtain ⟨m3, hm3⟩ : ∃ m, m = (if mksB zs = true then zs.length else 0) := ⟨_, rfl⟩
  rw [← hm3] at HMO ⊢
  obtain ⟨bq, hbq⟩ : ∃ b, b = mksB zs := ⟨_, rfl⟩
  rw [← hbq] at HMO HG hm3 ⊢
  have HM3 := Lib.hid hm3
  have HBQ := Lib.hid hbq
  obtain ⟨U2, hU2⟩ : ∃ U, U = u2.setCell ⟨g, 6, none⟩ (.slice A3 m3 cap3) := ⟨_, rfl⟩
  have hset := Gn.heap_set HXB.out 6 (.slice A3 m3 cap3)
  rw [show (#[.int .i64 k0, .int .i64 k1, .int .i64 k2, .int .i64 k3, .string stx, .slice A n cap, .slice none 0 0] : Array Value).setIfInBounds 6 (.slice A3 m3 cap3) = #[.int .i64 k0, .int .i64 k1, .int .i64 k2, .int .i64 k3, .string stx, .slice A n cap, .slice A3 m3 cap3] from rfl, ← hU2] at hset
  have hkeep : ∀ r, r ≠ g → U2.heap[r]? = u2.heap[r]? := fun r hr => by rw [hU2]; exact Gn.set_keep _ _ _ (fun e => hr e.symm)
  have HX1 := Lib.hid hset
  have HR1 := Lib.hid (show Rd 107 46 #[.int .i64 0, .int .i64 0, .int .i64 0, .int .i64 0, .string ⟨#[]⟩, .slice none 0 0, .slice none 0 0] W U2 rz from ⟨by rw [hU2]; exact HRB.out.bel.setCell (by have := HGL.out; show W.heap.size ≤ g; omega) _, (hkeep _ (by have := HGL.out; omega)).trans HRB.out.res, HRB.out.inn.block (hkeep _ (by have := HGL.out; omega))⟩)
  have HW1 := Lib.hid (own_far HOB.out HXB.out (by decide) hkeep)
  have HM1 := Lib.hid (own_far HMO.out HXB.out (by decide) hkeep)
  have gce := cell_of_row _ _ 6 _ _ (0, 0) HXB.out
  have gfr := Gn.frozen_row HXB.out 6
  have HU2 := Lib.hid hU2
  clear hown3 hb3 hm3 hbq hU2 hset hkeep
  go_upto_region 5 with fail
  rw [← HU2.out]
  clear gce gfr
  have HE := Lib.hid (fun (q : Bool) (w : World) (h : At 107 w (W.heap.size + 1) rz) => ended_any _ _ q _ h)
  have w0 := cell_of_row _ _ 0 _ _ (0, 0) HX1.out
  obtain ⟨cq, hcq⟩ : ∃ b, b = codeB k0 := ⟨_, rfl⟩
  rw [← hcq] at HG
  unfold codeB at hcq
  have HCQ := Lib.hid hcq
  clear hcq
  cases bq with
  | false =>
    obtain ⟨ec, hec⟩ : ∃ x, x = endC false rz := ⟨_, rfl⟩
    have HE1 := Lib.hid (HE.out false _ HR1.out.inn)
    rw [← hec] at HE1
    have HGG := Lib.hid (show getR (bs s) = if ec = 0 then (⟨k0, k1, k2, k3, stx, ts.map mkS, mksOf zs⟩, 0) else (zeroR, ec) by rw [HG.out, hec]; rfl)
    have hnz : ¬ ec = 0 := by rw [hec]; exact endC_false HR1.out.inn
    clear hec
    go_wp2_with fail
    refine HE1.out.mono ?_
    rintro e v1 ⟨rfl, rfl⟩
    clear w0
    have hz1 : ((ec : Int) != 0) = true := by rw [bne_iff_ne]; omega
    have HGF := Lib.hid (show getR (bs s) = (zeroR, ec) by rw [HGG.out, if_neg hnz])
    clear hnz
    have y0 := cell_of_row _ _ 0 _ _ (0, 0) HR1.out.res
    have z0 := Gn.frozen_row HR1.out.res 0
    have y1 := cell_of_row _ _ 1 _ _ (0, 0) HR1.out.res
    have z1 := Gn.frozen_row HR1.out.res 1
    have y2 := cell_of_row _ _ 2 _ _ (0, 0) HR1.out.res
    have z2 := Gn.frozen_row HR1.out.res 2
    have y3 := cell_of_row _ _ 3 _ _ (0, 0) HR1.out.res
    have z3 := Gn.frozen_row HR1.out.res 3
    have y4 := cell_of_row _ _ 4 _ _ (0, 0) HR1.out.res
    have z4 := Gn.frozen_row HR1.out.res 4
    have y5 := cell_of_row _ _ 5 _ _ (0, 0) HR1.out.res
    have z5 := Gn.frozen_row HR1.out.res 5
    have y6 := cell_of_row _ _ 6 _ _ (0, 0) HR1.out.res
    have z6 := Gn.frozen_row HR1.out.res 6
    have HS7 := Lib.hid (set7 HR1.out.res (.int .i64 0) (.int .i64 0) (.int .i64 0) (.int .i64 0) (.string ⟨#[]⟩) (.slice none 0 0) (.slice none 0 0))
    have HB7 := Lib.hid (below7 (Nat.le_refl _) HR1.out.bel (.int .i64 0) (.int .i64 0) (.int .i64 0) (.int .i64 0) (.string ⟨#[]⟩) (.slice none 0 0) (.slice none 0 0))
    have HK7 := Lib.hid (fun (r : Nat) (hr : r ≠ W.heap.size) => cell7 (w := U2) hr (.int .i64 0) (.int .i64 0) (.int .i64 0) (.int .i64 0) (.string ⟨#[]⟩) (.slice none 0 0) (.slice none 0 0))
    go_wp2_with fail
    refine bodyPost_ret (results_ct (P := Try.prog) rfl _ _ W.heap.size 46 _ (0, 0) _ _ rfl rfl HS7.out Try.underlying46 rfl (by kernel_rfl)) rfl ?_
    rw [HGF.out]
    exact ⟨_, rfl, zeroR_at _, HB7.out⟩
  | true =>
    by_cases c1 : (0 : Int) ≤ k0
    · by_cases c2 : k0 ≤ 20
      · have hq : cq = true := by rw [HCQ.out, decide_eq_true c1, decide_eq_true c2]; rfl
        subst hq
        obtain ⟨ec, hec⟩ : ∃ x, x = endC true rz := ⟨_, rfl⟩
        have HE1 := Lib.hid (HE.out true _ HR1.out.inn)
        rw [← hec] at HE1
        have HGG := Lib.hid (show getR (bs s) = if ec = 0 then (⟨k0, k1, k2, k3, stx, ts.map mkS, mksOf zs⟩, 0) else (zeroR, ec) by rw [HG.out, hec]; rfl)
        clear hec
        go_wp2_with fail
        refine HE1.out.mono ?_
        rintro e v1 ⟨rfl, rfl⟩
        clear w0
        by_cases hz : ec = 0
        · subst hz
          have HGF := Lib.hid (show getR (bs s) = (⟨k0, k1, k2, k3, stx, ts.map mkS, mksOf zs⟩, 0) by rw [HGG.out, if_pos rfl])
          have y0 := cell_of_row _ _ 0 _ _ (0, 0) HR1.out.res
          have z0 := Gn.frozen_row HR1.out.res 0
          have y1 := cell_of_row _ _ 1 _ _ (0, 0) HR1.out.res
          have z1 := Gn.frozen_row HR1.out.res 1
          have y2 := cell_of_row _ _ 2 _ _ (0, 0) HR1.out.res
          have z2 := Gn.frozen_row HR1.out.res 2
          have y3 := cell_of_row _ _ 3 _ _ (0, 0) HR1.out.res
          have z3 := Gn.frozen_row HR1.out.res 3
          have y4 := cell_of_row _ _ 4 _ _ (0, 0) HR1.out.res
          have z4 := Gn.frozen_row HR1.out.res 4
          have y5 := cell_of_row _ _ 5 _ _ (0, 0) HR1.out.res
          have z5 := Gn.frozen_row HR1.out.res 5
          have y6 := cell_of_row _ _ 6 _ _ (0, 0) HR1.out.res
          have z6 := Gn.frozen_row HR1.out.res 6
          have x0 := cell_of_row _ _ 0 _ _ (0, 0) HX1.out
          have x1 := cell_of_row _ _ 1 _ _ (0, 0) HX1.out
          have x2 := cell_of_row _ _ 2 _ _ (0, 0) HX1.out
          have x3 := cell_of_row _ _ 3 _ _ (0, 0) HX1.out
          have x4 := cell_of_row _ _ 4 _ _ (0, 0) HX1.out
          have x5 := cell_of_row _ _ 5 _ _ (0, 0) HX1.out
          have x6 := cell_of_row _ _ 6 _ _ (0, 0) HX1.out
          have HS7 := Lib.hid (set7 HR1.out.res (.int .i64 k0) (.int .i64 k1) (.int .i64 k2) (.int .i64 k3) (.string stx) (.slice A n cap) (.slice A3 m3 cap3))
          have HB7 := Lib.hid (below7 (Nat.le_refl _) HR1.out.bel (.int .i64 k0) (.int .i64 k1) (.int .i64 k2) (.int .i64 k3) (.string stx) (.slice A n cap) (.slice A3 m3 cap3))
          have HK7 := Lib.hid (fun (r : Nat) (hr : r ≠ W.heap.size) => cell7 (w := U2) hr (.int .i64 k0) (.int .i64 k1) (.int .i64 k2) (.int .i64 k3) (.string stx) (.slice A n cap) (.slice A3 m3 cap3))
          go_wp2_with fail
          refine bodyPost_ret (results_ct (P := Try.prog) rfl _ _ W.heap.size 46 _ (0, 0) _ _ rfl rfl HS7.out Try.underlying46 rfl (by kernel_rfl)) rfl ?_
          rw [HGF.out]
          have hm : m3 = (mksOf zs).length := by rw [HM3.out]; simp [mksOf]
          refine ⟨_, rfl, ⟨A, cap, A3, cap3, ?_, ?_, ?_⟩, HB7.out⟩
          · dsimp only; rw [List.length_map, ← HN.out, ← hm]
          · dsimp only; rw [List.length_map, ← HN.out]; exact strs_own (own_far HW1.out HR1.out.res (by decide) HK7.out)
          · dsimp only; rw [← hm]; exact flts_own (own_far HM1.out HR1.out.res (by decide) HK7.out)
        · have hnz : ¬ ec = 0 := hz
          clear hz
          have hz1 : ((ec : Int) != 0) = true := by rw [bne_iff_ne]; omega
          have HGF := Lib.hid (show getR (bs s) = (zeroR, ec) by rw [HGG.out, if_neg hnz])
          clear hnz
          have y0 := cell_of_row _ _ 0 _ _ (0, 0) HR1.out.res
          have z0 := Gn.frozen_row HR1.out.res 0
          have y1 := cell_of_row _ _ 1 _ _ (0, 0) HR1.out.res
          have z1 := Gn.frozen_row HR1.out.res 1
          have y2 := cell_of_row _ _ 2 _ _ (0, 0) HR1.out.res
          have z2 := Gn.frozen_row HR1.out.res 2
          have y3 := cell_of_row _ _ 3 _ _ (0, 0) HR1.out.res
          have z3 := Gn.frozen_row HR1.out.res 3
          have y4 := cell_of_row _ _ 4 _ _ (0, 0) HR1.out.res
          have z4 := Gn.frozen_row HR1.out.res 4
          have y5 := cell_of_row _ _ 5 _ _ (0, 0) HR1.out.res
          have z5 := Gn.frozen_row HR1.out.res 5
          have y6 := cell_of_row _ _ 6 _ _ (0, 0) HR1.out.res
          have z6 := Gn.frozen_row HR1.out.res 6
          have HS7 := Lib.hid (set7 HR1.out.res (.int .i64 0) (.int .i64 0) (.int .i64 0) (.int .i64 0) (.string ⟨#[]⟩) (.slice none 0 0) (.slice none 0 0))
          have HB7 := Lib.hid (below7 (Nat.le_refl _) HR1.out.bel (.int .i64 0) (.int .i64 0) (.int .i64 0) (.int .i64 0) (.string ⟨#[]⟩) (.slice none 0 0) (.slice none 0 0))
          have HK7 := Lib.hid (fun (r : Nat) (hr : r ≠ W.heap.size) => cell7 (w := U2) hr (.int .i64 0) (.int .i64 0) (.int .i64 0) (.int .i64 0) (.string ⟨#[]⟩) (.slice none 0 0) (.slice none 0 0))
          go_wp2_with fail
          refine bodyPost_ret (results_ct (P := Try.prog) rfl _ _ W.heap.size 46 _ (0, 0) _ _ rfl rfl HS7.out Try.underlying46 rfl (by kernel_rfl)) rfl ?_
          rw [HGF.out]
          exact ⟨_, rfl, zeroR_at _, HB7.out⟩
      · have c2' : decide (k0 ≤ 20) = false := decide_eq_false c2
        have hq : cq = false := by rw [HCQ.out, decide_eq_true c1, decide_eq_false c2]; rfl
        subst hq
        obtain ⟨ec, hec⟩ : ∃ x, x = endC false rz := ⟨_, rfl⟩
        have HE1 := Lib.hid (HE.out false _ HR1.out.inn)
        rw [← hec] at HE1
        have HGG := Lib.hid (show getR (bs s) = if ec = 0 then (⟨k0, k1, k2, k3, stx, ts.map mkS, mksOf zs⟩, 0) else (zeroR, ec) by rw [HG.out, hec]; rfl)
        clear hec
        go_wp2_with fail
        refine HE1.out.mono ?_
        rintro e v1 ⟨rfl, rfl⟩
        clear w0
        by_cases hz : ec = 0
        · subst hz
          have HGF := Lib.hid (show getR (bs s) = (⟨k0, k1, k2, k3, stx, ts.map mkS, mksOf zs⟩, 0) by rw [HGG.out, if_pos rfl])
          have y0 := cell_of_row _ _ 0 _ _ (0, 0) HR1.out.res
          have z0 := Gn.frozen_row HR1.out.res 0
          have y1 := cell_of_row _ _ 1 _ _ (0, 0) HR1.out.res
          have z1 := Gn.frozen_row HR1.out.res 1
          have y2 := cell_of_row _ _ 2 _ _ (0, 0) HR1.out.res
          have z2 := Gn.frozen_row HR1.out.res 2
          have y3 := cell_of_row _ _ 3 _ _ (0, 0) HR1.out.res
          have z3 := Gn.frozen_row HR1.out.res 3
          have y4 := cell_of_row _ _ 4 _ _ (0, 0) HR1.out.res
          have z4 := Gn.frozen_row HR1.out.res 4
          have y5 := cell_of_row _ _ 5 _ _ (0, 0) HR1.out.res
          have z5 := Gn.frozen_row HR1.out.res 5
          have y6 := cell_of_row _ _ 6 _ _ (0, 0) HR1.out.res
          have z6 := Gn.frozen_row HR1.out.res 6
          have x0 := cell_of_row _ _ 0 _ _ (0, 0) HX1.out
          have x1 := cell_of_row _ _ 1 _ _ (0, 0) HX1.out
          have x2 := cell_of_row _ _ 2 _ _ (0, 0) HX1.out
          have x3 := cell_of_row _ _ 3 _ _ (0, 0) HX1.out
          have x4 := cell_of_row _ _ 4 _ _ (0, 0) HX1.out
          have x5 := cell_of_row _ _ 5 _ _ (0, 0) HX1.out
          have x6 := cell_of_row _ _ 6 _ _ (0, 0) HX1.out
          have HS7 := Lib.hid (set7 HR1.out.res (.int .i64 k0) (.int .i64 k1) (.int .i64 k2) (.int .i64 k3) (.string stx) (.slice A n cap) (.slice A3 m3 cap3))
          have HB7 := Lib.hid (below7 (Nat.le_refl _) HR1.out.bel (.int .i64 k0) (.int .i64 k1) (.int .i64 k2) (.int .i64 k3) (.string stx) (.slice A n cap) (.slice A3 m3 cap3))
          have HK7 := Lib.hid (fun (r : Nat) (hr : r ≠ W.heap.size) => cell7 (w := U2) hr (.int .i64 k0) (.int .i64 k1) (.int .i64 k2) (.int .i64 k3) (.string stx) (.slice A n cap) (.slice A3 m3 cap3))
          go_wp2_with fail
          refine bodyPost_ret (results_ct (P := Try.prog) rfl _ _ W.heap.size 46 _ (0, 0) _ _ rfl rfl HS7.out Try.underlying46 rfl (by kernel_rfl)) rfl ?_
          rw [HGF.out]
          have hm : m3 = (mksOf zs).length := by rw [HM3.out]; simp [mksOf]
          refine ⟨_, rfl, ⟨A, cap, A3, cap3, ?_, ?_, ?_⟩, HB7.out⟩
          · dsimp only; rw [List.length_map, ← HN.out, ← hm]
          · dsimp only; rw [List.length_map, ← HN.out]; exact strs_own (own_far HW1.out HR1.out.res (by decide) HK7.out)
          · dsimp only; rw [← hm]; exact flts_own (own_far HM1.out HR1.out.res (by decide) HK7.out)
        · have hnz : ¬ ec = 0 := hz
          clear hz
          have hz1 : ((ec : Int) != 0) = true := by rw [bne_iff_ne]; omega
          have HGF := Lib.hid (show getR (bs s) = (zeroR, ec) by rw [HGG.out, if_neg hnz])
          clear hnz
          have y0 := cell_of_row _ _ 0 _ _ (0, 0) HR1.out.res
          have z0 := Gn.frozen_row HR1.out.res 0
          have y1 := cell_of_row _ _ 1 _ _ (0, 0) HR1.out.res
          have z1 := Gn.frozen_row HR1.out.res 1
          have y2 := cell_of_row _ _ 2 _ _ (0, 0) HR1.out.res
          have z2 := Gn.frozen_row HR1.out.res 2
          have y3 := cell_of_row _ _ 3 _ _ (0, 0) HR1.out.res
          have z3 := Gn.frozen_row HR1.out.res 3
          have y4 := cell_of_row _ _ 4 _ _ (0, 0) HR1.out.res
          have z4 := Gn.frozen_row HR1.out.res 4
          have y5 := cell_of_row _ _ 5 _ _ (0, 0) HR1.out.res
          have z5 := Gn.frozen_row HR1.out.res 5
          have y6 := cell_of_row _ _ 6 _ _ (0, 0) HR1.out.res
          have z6 := Gn.frozen_row HR1.out.res 6
          have HS7 := Lib.hid (set7 HR1.out.res (.int .i64 0) (.int .i64 0) (.int .i64 0) (.int .i64 0) (.string ⟨#[]⟩) (.slice none 0 0) (.slice none 0 0))
          have HB7 := Lib.hid (below7 (Nat.le_refl _) HR1.out.bel (.int .i64 0) (.int .i64 0) (.int .i64 0) (.int .i64 0) (.string ⟨#[]⟩) (.slice none 0 0) (.slice none 0 0))
          have HK7 := Lib.hid (fun (r : Nat) (hr : r ≠ W.heap.size) => cell7 (w := U2) hr (.int .i64 0) (.int .i64 0) (.int .i64 0) (.int .i64 0) (.string ⟨#[]⟩) (.slice none 0 0) (.slice none 0 0))
          go_wp2_with fail
          refine bodyPost_ret (results_ct (P := Try.prog) rfl _ _ W.heap.size 46 _ (0, 0) _ _ rfl rfl HS7.out Try.underlying46 rfl (by kernel_rfl)) rfl ?_
          rw [HGF.out]
          exact ⟨_, rfl, zeroR_at _, HB7.out⟩
    · have c1' : decide ((0 : Int) ≤ k0) = false := decide_eq_false c1
      have hq : cq = false := by rw [HCQ.out, decide_eq_false c1]; rfl
      subst hq
      obtain ⟨ec, hec⟩ : ∃ x, x = endC false rz := ⟨_, rfl⟩
      have HE1 := Lib.hid (HE.out false _ HR1.out.inn)
      rw [← hec] at HE1
      have HGG := Lib.hid (show getR (bs s) = if ec = 0 then (⟨k0, k1, k2, k3, stx, ts.map mkS, mksOf zs⟩, 0) else (zeroR, ec) by rw [HG.out, hec]; rfl)
      clear hec
      go_wp2_with fail
      refine HE1.out.mono ?_
      rintro e v1 ⟨rfl, rfl⟩
      clear w0
      by_cases hz : ec = 0
      · subst hz
        have HGF := Lib.hid (show getR (bs s) = (⟨k0, k1, k2, k3, stx, ts.map mkS, mksOf zs⟩, 0) by rw [HGG.out, if_pos rfl])
        have y0 := cell_of_row _ _ 0 _ _ (0, 0) HR1.out.res
        have z0 := Gn.frozen_row HR1.out.res 0
        have y1 := cell_of_row _ _ 1 _ _ (0, 0) HR1.out.res
        have z1 := Gn.frozen_row HR1.out.res 1
        have y2 := cell_of_row _ _ 2 _ _ (0, 0) HR1.out.res
        have z2 := Gn.frozen_row HR1.out.res 2
        have y3 := cell_of_row _ _ 3 _ _ (0, 0) HR1.out.res
        have z3 := Gn.frozen_row HR1.out.res 3
        have y4 := cell_of_row _ _ 4 _ _ (0, 0) HR1.out.res
        have z4 := Gn.frozen_row HR1.out.res 4
        have y5 := cell_of_row _ _ 5 _ _ (0, 0) HR1.out.res
        have z5 := Gn.frozen_row HR1.out.res 5
        have y6 := cell_of_row _ _ 6 _ _ (0, 0) HR1.out.res
        have z6 := Gn.frozen_row HR1.out.res 6
        have x0 := cell_of_row _ _ 0 _ _ (0, 0) HX1.out
        have x1 := cell_of_row _ _ 1 _ _ (0, 0) HX1.out
        have x2 := cell_of_row _ _ 2 _ _ (0, 0) HX1.out
        have x3 := cell_of_row _ _ 3 _ _ (0, 0) HX1.out
        have x4 := cell_of_row _ _ 4 _ _ (0, 0) HX1.out
        have x5 := cell_of_row _ _ 5 _ _ (0, 0) HX1.out
        have x6 := cell_of_row _ _ 6 _ _ (0, 0) HX1.out
        have HS7 := Lib.hid (set7 HR1.out.res (.int .i64 k0) (.int .i64 k1) (.int .i64 k2) (.int .i64 k3) (.string stx) (.slice A n cap) (.slice A3 m3 cap3))
        have HB7 := Lib.hid (below7 (Nat.le_refl _) HR1.out.bel (.int .i64 k0) (.int .i64 k1) (.int .i64 k2) (.int .i64 k3) (.string stx) (.slice A n cap) (.slice A3 m3 cap3))
        have HK7 := Lib.hid (fun (r : Nat) (hr : r ≠ W.heap.size) => cell7 (w := U2) hr (.int .i64 k0) (.int .i64 k1) (.int .i64 k2) (.int .i64 k3) (.string stx) (.slice A n cap) (.slice A3 m3 cap3))
        go_wp2_with fail
        refine bodyPost_ret (results_ct (P := Try.prog) rfl _ _ W.heap.size 46 _ (0, 0) _ _ rfl rfl HS7.out Try.underlying46 rfl (by kernel_rfl)) rfl ?_
        rw [HGF.out]
        have hm : m3 = (mksOf zs).length := by rw [HM3.out]; simp [mksOf]
        refine ⟨_, rfl, ⟨A, cap, A3, cap3, ?_, ?_, ?_⟩, HB7.out⟩
        · dsimp only; rw [List.length_map, ← HN.out, ← hm]
        · dsimp only; rw [List.length_map, ← HN.out]; exact strs_own (own_far HW1.out HR1.out.res (by decide) HK7.out)
        · dsimp only; rw [← hm]; exact flts_own (own_far HM1.out HR1.out.res (by decide) HK7.out)
      · have hnz : ¬ ec = 0 := hz
        clear hz
        have hz1 : ((ec : Int) != 0) = true := by rw [bne_iff_ne]; omega
        have HGF := Lib.hid (show getR (bs s) = (zeroR, ec) by rw [HGG.out, if_neg hnz])
        clear hnz
        have y0 := cell_of_row _ _ 0 _ _ (0, 0) HR1.out.res
        have z0 := Gn.frozen_row HR1.out.res 0
        have y1 := cell_of_row _ _ 1 _ _ (0, 0) HR1.out.res
        have z1 := Gn.frozen_row HR1.out.res 1
        have y2 := cell_of_row _ _ 2 _ _ (0, 0) HR1.out.res
        have z2 := Gn.frozen_row HR1.out.res 2
        have y3 := cell_of_row _ _ 3 _ _ (0, 0) HR1.out.res
        have z3 := Gn.frozen_row HR1.out.res 3
        have y4 := cell_of_row _ _ 4 _ _ (0, 0) HR1.out.res
        have z4 := Gn.frozen_row HR1.out.res 4
        have y5 := cell_of_row _ _ 5 _ _ (0, 0) HR1.out.res
        have z5 := Gn.frozen_row HR1.out.res 5
        have y6 := cell_of_row _ _ 6 _ _ (0, 0) HR1.out.res
        have z6 := Gn.frozen_row HR1.out.res 6
        have HS7 := Lib.hid (set7 HR1.out.res (.int .i64 0) (.int .i64 0) (.int .i64 0) (.int .i64 0) (.string ⟨#[]⟩) (.slice none 0 0) (.slice none 0 0))
        have HB7 := Lib.hid (below7 (Nat.le_refl _) HR1.out.bel (.int .i64 0) (.int .i64 0) (.int .i64 0) (.int .i64 0) (.string ⟨#[]⟩) (.slice none 0 0) (.slice none 0 0))
        have HK7 := Lib.hid (fun (r : Nat) (hr : r ≠ W.heap.size) => cell7 (w := U2) hr (.int .i64 0) (.int .i64 0) (.int .i64 0) (.int .i64 0) (.string ⟨#[]⟩) (.slice none 0 0) (.slice none 0 0))
        go_wp2_with fail
        refine bodyPost_ret (results_ct (P := Try.prog) rfl _ _ W.heap.size 46 _ (0, 0) _ _ rfl rfl HS7.out Try.underlying46 rfl (by kernel_rfl)) rfl ?_
        rw [HGF.out]
        exact ⟨_, rfl, zeroR_at _, HB7.out⟩
end Go.Proofs.Ytbkfbejbloclgaa.Cm
