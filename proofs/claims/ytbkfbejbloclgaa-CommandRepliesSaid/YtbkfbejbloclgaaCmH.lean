/-
  Layer 21: Get, the program's.
-/
import Derived.Test.YtbkfbejbloclgaaCmG
namespace Go.Proofs.Ytbkfbejbloclgaa.Cm
open Go.RowKit
open Oct (pb bs Strs rInt rText rTexts rErr rEnd At Sep Gives strV)
open Lx (goodB)
open Gn (Asks)
set_option maxRecDepth 100000
set_option linter.unusedSimpArgs false
set_option linter.unusedVariables false

theorem ended_any (g : Nat) (r : Oct.Rest) (b : Bool) (w : World) (h : At 107 w g r) :
    Calls Try.prog 42 #[.pointer (some ⟨g, 0, none⟩), .bool b] w fun e w' => e = .returned (.int .i64 (endC b r : Int)) ∧ w = w' := by
  have HE := Lib.hid (Oct.err_any g r w h)
  have HD := Lib.hid (Oct.end_any g r w h)
  obtain ⟨x, hx⟩ : ∃ x, x = endC b r := ⟨_, rfl⟩
  rw [← hx]
  cases r with
  | error e0 =>
    have h0 := h.1
    have hx2 : x = e0 := hx
    have hr : rErr (.error e0) = e0 := rfl
    rw [hr] at HE
    subst hx2
    clear h hx hr HD
    have h1 : ((x : Int) != 0) = true := by rw [bne_iff_ne]; omega
    go_enter Try.func42, Try.ntmps42
    go_wp2_with fail
    refine HE.out.mono ?_
    rintro e w' ⟨rfl, rfl⟩
    go_wp2
    go_ret
    exact ⟨rfl, rfl⟩
  | ok l =>
    have hr : rErr (.ok l) = 0 := rfl
    rw [hr] at HE
    cases b with
    | false =>
      have hx2 : x = 2 := hx
      subst hx2
      clear h hr HD hx
      go_enter Try.func42, Try.ntmps42
      go_wp2_with fail
      refine HE.out.mono ?_
      rintro e w' ⟨rfl, rfl⟩
      go_wp2
      go_ret
      exact ⟨rfl, rfl⟩
    | true =>
      have hx2 : rEnd (.ok l) = x := hx.symm
      rw [hx2] at HD
      clear h hr hx hx2
      go_enter Try.func42, Try.ntmps42
      go_wp2_with fail
      refine HE.out.mono ?_
      rintro e w' ⟨rfl, rfl⟩
      go_wp2_with fail
      refine HD.out.mono ?_
      rintro e w' ⟨rfl, rfl⟩
      go_wp2
      go_ret
      exact ⟨rfl, rfl⟩
set_option maxHeartbeats 16000000 in
theorem get_any (s : ByteArray) (hs : s.size ≤ 9223372036854775807) (W : World) :
    Calls Try.prog 14 #[.string s] W (GetOut W (getC (bs s))) := by
  obtain ⟨V2, hV2⟩ : ∃ V2, V2 = (W.alloc (.cells #[.int .i64 0, .string ⟨#[]⟩, .string ⟨#[]⟩, .string ⟨#[]⟩, .string ⟨#[]⟩, .slice none 0 0, .int .i64 0, .int .i64 0, .int .i64 0, .int .i64 0] 28)).alloc (.cells #[.string s, .int .i64 0] 107) := ⟨_, rfl⟩
  have hb : Below W.heap.size W V2 := by rw [hV2]; exact ((Below.refl _ W).alloc (Nat.le_refl _) _).alloc (by simp) _
  have hx0 : V2.heap[W.heap.size]? = some (.cells #[.int .i64 0, .string ⟨#[]⟩, .string ⟨#[]⟩, .string ⟨#[]⟩, .string ⟨#[]⟩, .slice none 0 0, .int .i64 0, .int .i64 0, .int .i64 0, .int .i64 0] 28 (0, 0)) := by rw [hV2]; exact (heap_alloc_old _ _ (by simp)).trans (heap_alloc_new W _)
  have hx1 : V2.heap[W.heap.size + 1]? = some (.cells #[.string s, .int .i64 0] 107 (0, 0)) := by
    rw [hV2]; have := heap_alloc_new (W.alloc (.cells #[.int .i64 0, .string ⟨#[]⟩, .string ⟨#[]⟩, .string ⟨#[]⟩, .string ⟨#[]⟩, .slice none 0 0, .int .i64 0, .int .i64 0, .int .i64 0, .int .i64 0] 28)) (.cells #[.string s, .int .i64 0] 107); simpa using this
  have HR0 := Lib.hid (show Rd 107 28 #[.int .i64 0, .string ⟨#[]⟩, .string ⟨#[]⟩, .string ⟨#[]⟩, .string ⟨#[]⟩, .slice none 0 0, .int .i64 0, .int .i64 0, .int .i64 0, .int .i64 0] W V2 (.ok (bs s)) from ⟨hb, hx0, ⟨s, rfl, hs, hx1⟩⟩)
  obtain ⟨r0, hr0⟩ : ∃ r, r = (.ok (bs s) : Oct.Rest) := ⟨_, rfl⟩
  rw [← hr0] at HR0
  have HG := Lib.hid (show getC (bs s) = if endC (goodC (readC r0).1) (readC r0).2 = 0 then ((readC r0).1, 0) else (zeroC, endC (goodC (readC r0).1) (readC r0).2) by rw [hr0]; rfl)
  have HFT := Lib.hid (readC_fits r0)
  have HV2 := Lib.hid hV2
  clear hb hx0 hx1 hV2 hr0 hs
  obtain ⟨k0, r1, e0⟩ : ∃ k r, rInt r0 = (k, r) := ⟨_, _, rfl⟩
  obtain ⟨who, r2, e1⟩ : ∃ k r, rText r1 = (k, r) := ⟨_, _, rfl⟩
  obtain ⟨nm, r3, e2⟩ : ∃ k r, rText r2 = (k, r) := ⟨_, _, rfl⟩
  obtain ⟨oth, r4, e3⟩ : ∃ k r, rText r3 = (k, r) := ⟨_, _, rfl⟩
  obtain ⟨txt, r5, e4⟩ : ∃ k r, rText r4 = (k, r) := ⟨_, _, rfl⟩
  obtain ⟨zs, r6, e5⟩ : ∃ k r, rTexts 64 r5 = (k, r) := ⟨_, _, rfl⟩
  have HRC := Lib.hid (show readC r0 = (⟨k0, mkS who, mkS nm, mkS oth, mkS txt, zs.map mkS, (rNums r6 4).1.getD 0 0, (rNums r6 4).1.getD 1 0, (rNums r6 4).1.getD 2 0, (rNums r6 4).1.getD 3 0⟩, (rNums r6 4).2) by
    unfold readC
    rw [e0]
    dsimp only
    rw [e1]
    dsimp only
    rw [e2]
    dsimp only
    rw [e3]
    dsimp only
    rw [e4]
    dsimp only
    rw [e5])
  rw [HRC.out] at HG HFT
  dsimp only at HG
  obtain ⟨swho, h1⟩ : ∃ x, x = mkS who := ⟨_, rfl⟩
  obtain ⟨snm, h2⟩ : ∃ x, x = mkS nm := ⟨_, rfl⟩
  obtain ⟨soth, h3⟩ : ∃ x, x = mkS oth := ⟨_, rfl⟩
  obtain ⟨stxt, h4⟩ : ∃ x, x = mkS txt := ⟨_, rfl⟩
  rw [← h1, ← h2, ← h3, ← h4] at HG HFT
  have HI0 := Lib.hid (fun (w : World) (h : At 107 w (W.heap.size + 1) r0) => (show Calls Try.prog 39 #[.pointer (some ⟨W.heap.size + 1, 0, none⟩)] w (Gives 107 w (W.heap.size + 1) (.int .i64 k0) r1) by have := Oct.int_in_any _ _ _ h; rw [e0] at this; exact this))
  have HI1 := Lib.hid (fun (w : World) (h : At 107 w (W.heap.size + 1) r1) => (show Calls Try.prog 40 #[.pointer (some ⟨W.heap.size + 1, 0, none⟩)] w (Gives 107 w (W.heap.size + 1) (.string swho) r2) by have := Oct.text_in_any _ _ _ h; rw [e1] at this; rw [h1]; exact this))
  have HI2 := Lib.hid (fun (w : World) (h : At 107 w (W.heap.size + 1) r2) => (show Calls Try.prog 40 #[.pointer (some ⟨W.heap.size + 1, 0, none⟩)] w (Gives 107 w (W.heap.size + 1) (.string snm) r3) by have := Oct.text_in_any _ _ _ h; rw [e2] at this; rw [h2]; exact this))
  have HI3 := Lib.hid (fun (w : World) (h : At 107 w (W.heap.size + 1) r3) => (show Calls Try.prog 40 #[.pointer (some ⟨W.heap.size + 1, 0, none⟩)] w (Gives 107 w (W.heap.size + 1) (.string soth) r4) by have := Oct.text_in_any _ _ _ h; rw [e3] at this; rw [h3]; exact this))
  have HI4 := Lib.hid (fun (w : World) (h : At 107 w (W.heap.size + 1) r4) => (show Calls Try.prog 40 #[.pointer (some ⟨W.heap.size + 1, 0, none⟩)] w (Gives 107 w (W.heap.size + 1) (.string stxt) r5) by have := Oct.text_in_any _ _ _ h; rw [e4] at this; rw [h4]; exact this))
  have HI5 := Lib.hid (fun (w : World) (h : At 107 w (W.heap.size + 1) r5) => (show Calls Try.prog 41 #[.pointer (some ⟨W.heap.size + 1, 0, none⟩), .int .i64 64] w (Oct.GivesStrs 107 w (W.heap.size + 1) (zs, r6)) by have := Oct.texts_in_any _ 64 _ _ h; rw [e5] at this; exact this))
  clear e0 e1 e2 e3 e4 e5 h1 h2 h3 h4 HRC
  go_enter Try.func14, Try.ntmps14
  go_wp2_with fail
  refine (Oct.open_any s _).mono ?_
  rintro e w1 ⟨rfl, rfl⟩
  go_upto_region 2 with fail
  rw [← HV2.out]
  go_wp2_with fail
  refine (HI0.out _ HR0.out.inn).mono ?_
  rintro e w2 ⟨rfl, ha, hs⟩
  have HR1 := Lib.hid (HR0.out.sep hs ha)
  clear ha hs
  go_wp2_with fail
  refine (HI1.out _ HR1.out.inn).mono ?_
  rintro e w3 ⟨rfl, ha, hs⟩
  have HR2 := Lib.hid (HR1.out.sep hs ha)
  clear ha hs
  go_wp2_with fail
  refine (HI2.out _ HR2.out.inn).mono ?_
  rintro e w4 ⟨rfl, ha, hs⟩
  have HR3 := Lib.hid (HR2.out.sep hs ha)
  clear ha hs
  go_wp2_with fail
  refine (HI3.out _ HR3.out.inn).mono ?_
  rintro e w5 ⟨rfl, ha, hs⟩
  have HR4 := Lib.hid (HR3.out.sep hs ha)
  clear ha hs
  go_wp2_with fail
  refine (HI4.out _ HR4.out.inn).mono ?_
  rintro e w6 ⟨rfl, ha, hs⟩
  have HR5 := Lib.hid (HR4.out.sep hs ha)
  clear ha hs
  go_wp2_with fail
  refine (HI5.out _ HR5.out.inn).mono ?_
  rintro e w7 ⟨A, cap, rfl, hown, ha, hs⟩
  dsimp only at hown ha
  have HR6 := Lib.hid (HR5.out.sep hs ha)
  obtain ⟨n, hn⟩ : ∃ n, n = zs.length := ⟨_, rfl⟩
  dsimp only
  rw [← hn] at hown ⊢
  obtain ⟨U, hU⟩ : ∃ U, U = w7.alloc (.cells #[.int .i64 k0, .string swho, .string snm, .string soth, .string stxt, .slice A n cap, .int .i64 0, .int .i64 0, .int .i64 0, .int .i64 0] 28) := ⟨_, rfl⟩
  have hbU : Below w7.heap.size w7 U := by rw [hU]; exact (Below.refl _ _).alloc (Nat.le_refl _) _
  have hxU : U.heap[w7.heap.size]? = some (.cells #[.int .i64 k0, .string swho, .string snm, .string soth, .string stxt, .slice A n cap, .int .i64 0, .int .i64 0, .int .i64 0, .int .i64 0] 28 (0, 0)) := by rw [hU]; exact heap_alloc_new _ _
  have hownU : U.ownsRow w6.heap.size 9 1 (.slice A n cap) n (zs.map strV) := by rw [hU]; exact hown.alloc _
  obtain ⟨g, hg⟩ : ∃ g, g = w7.heap.size := ⟨_, rfl⟩
  rw [← hg] at hxU
  have HGL := Lib.hid (show W.heap.size + 1 < g by have := HR6.out.lt; omega)
  have HRU := Lib.hid (HR6.out.under hbU)
  have HXU := Lib.hid hxU
  have HOU := Lib.hid hownU
  have HU := Lib.hid hU
  have HGE := Lib.hid hg
  have HN := Lib.hid hn
  have HIN := Lib.hid (fun (w : World) (r : Oct.Rest) (h : At 107 w (W.heap.size + 1) r) => Oct.int_in_any _ _ _ h)
  clear ha hs hown hbU hxU hownU hU hg hn
  go_upto_block 0 with fail
  rw [← HU.out, ← HGE.out]
  go_wp2_with fail
  go_loopw [23] (fun i wr => ∃ k : Nat, k ≤ 4 ∧ i = .int .i64 k ∧ Rd 107 28 #[.int .i64 0, .string ⟨#[]⟩, .string ⟨#[]⟩, .string ⟨#[]⟩, .string ⟨#[]⟩, .slice none 0 0, .int .i64 0, .int .i64 0, .int .i64 0, .int .i64 0] W wr (rNums r6 k).2 ∧ wr.ownsRow w6.heap.size 9 1 (.slice A n cap) n (zs.map strV) ∧ wr.heap[g]? = some (.cells #[.int .i64 k0, .string swho, .string snm, .string soth, .string stxt, .slice A n cap, .int .i64 ((rNums r6 k).1.getD 0 0), .int .i64 ((rNums r6 k).1.getD 1 0), .int .i64 ((rNums r6 k).1.getD 2 0), .int .i64 ((rNums r6 k).1.getD 3 0)] 28 (0, 0))) (fun i _ => 4 - (intOf i).toNat)
  case atStart => exact ⟨0, by omega, rfl, HRU.out, HOU.out, HXU.out⟩
  case round =>
    obtain ⟨k, hk, rfl, hr, ho, hx⟩ := hrel
    have HR := Lib.hid hr
    have HO := Lib.hid ho
    have HX := Lib.hid hx
    clear hr ho hx
    by_cases h4 : k < 4
    · have hlt4 : (k : Int) < 4 := by omega
      go_wp2_with fail
      refine (HIN.out _ _ HR.out.inn).mono ?_
      rintro e v9 ⟨rfl, ha, hs⟩
      have hx9 := (hs.block g (Gn.heap_lt HX.out) (by have := HGL.out; omega)).trans HX.out
      have ho9 := Oct.Sep.own hs HO.out (HR.out.inn.cells).choose_spec.choose_spec (by decide)
      have hr9 := HR.out.sep hs ha
      obtain ⟨x, hxx⟩ : ∃ x, x = (rInt (rNums r6 k).2).1 := ⟨_, rfl⟩
      rw [← hxx]
      have hset := Gn.heap_set hx9 (6 + k) (.int .i64 x)
      rw [set_num _ _ _ _ _ _ _ k (rNums_len _ _) h4] at hset
      rw [hxx, show (rNums r6 k).1 ++ [(rInt (rNums r6 k).2).1] = (rNums r6 (k + 1)).1 from rfl, ← hxx] at hset
      have hkeep : ∀ r, r ≠ g → (v9.setCell ⟨g, 6 + k, none⟩ (.int .i64 x)).heap[r]? = v9.heap[r]? := fun r hr => Gn.set_keep _ _ _ (fun e => hr e.symm)
      have hoo := own_far ho9 hx9 (by decide) hkeep
      have hrr : Rd 107 28 #[.int .i64 0, .string ⟨#[]⟩, .string ⟨#[]⟩, .string ⟨#[]⟩, .string ⟨#[]⟩, .slice none 0 0, .int .i64 0, .int .i64 0, .int .i64 0, .int .i64 0] W (v9.setCell ⟨g, 6 + k, none⟩ (.int .i64 x)) (rNums r6 (k + 1)).2 :=
        ⟨hr9.bel.setCell (by have := HGL.out; show W.heap.size ≤ g; omega) _, (hkeep _ (by have := HGL.out; omega)).trans hr9.res, hr9.inn.block (hkeep _ (by have := HGL.out; omega))⟩
      have HA := Lib.hid hset
      have HB := Lib.hid hoo
      have HC := Lib.hid hrr
      have gfr := Gn.frozen_row hx9 (6 + k)
      have gce : ∃ u, v9.cell? ⟨g, 6 + k, none⟩ = some u := by
        rcases (by omega : k = 0 ∨ k = 1 ∨ k = 2 ∨ k = 3) with rfl | rfl | rfl | rfl
        · exact ⟨_, cell_of_row _ _ 6 _ _ (0, 0) hx9⟩
        · exact ⟨_, cell_of_row _ _ 7 _ _ (0, 0) hx9⟩
        · exact ⟨_, cell_of_row _ _ 8 _ _ (0, 0) hx9⟩
        · exact ⟨_, cell_of_row _ _ 9 _ _ (0, 0) hx9⟩
      obtain ⟨u, gce⟩ := gce
      clear ha hs hx9 ho9 hr9 hxx hset hkeep hoo hrr
      go_wp2_with fail
      refine ⟨⟨k + 1, by omega, by go_num, HC.out, HB.out, HA.out⟩, by simp [intOf]; omega⟩
    · have hke : k = 4 := by omega
      subst hke
      obtain ⟨m0, hm0⟩ : ∃ m, m = (rNums r6 4).1.getD 0 0 := ⟨_, rfl⟩
      obtain ⟨m1, hm1⟩ : ∃ m, m = (rNums r6 4).1.getD 1 0 := ⟨_, rfl⟩
      obtain ⟨m2, hm2⟩ : ∃ m, m = (rNums r6 4).1.getD 2 0 := ⟨_, rfl⟩
      obtain ⟨m3, hm3⟩ : ∃ m, m = (rNums r6 4).1.getD 3 0 := ⟨_, rfl⟩
      obtain ⟨rz, hrz⟩ : ∃ m, m = (rNums r6 4).2 := ⟨_, rfl⟩
      rw [← hm0, ← hm1, ← hm2, ← hm3] at HX HG HFT
      rw [← hrz] at HR HG
      clear hm0 hm1 hm2 hm3 hrz
      obtain ⟨c, hc⟩ : ∃ c, c = (⟨k0, swho, snm, soth, stxt, zs.map mkS, m0, m1, m2, m3⟩ : Cmd) := ⟨_, rfl⟩
      have hSS := strs_own HO.out
      have HGD := Lib.hid (fun (w : World) (b : Below wr.heap.size wr w) => good_any k0 swho snm soth stxt (zs.map mkS) m0 m1 m2 m3 A n cap w (by rw [List.length_map]; exact HN.out.symm) (Strs.under hSS b) HFT.out.who HFT.out.nm HFT.out.oth HFT.out.txt (by have := HFT.out.word; have h2 := HN.out; dsimp only at this; rw [List.length_map] at this; omega))
      rw [← hc] at HGD HG
      obtain ⟨q, hq⟩ : ∃ q, q = goodC c := ⟨_, rfl⟩
      rw [← hq] at HGD HG
      obtain ⟨ec, hec⟩ : ∃ x, x = endC q rz := ⟨_, rfl⟩
      rw [← hec] at HG
      have HE := Lib.hid (fun (w : World) (h : At 107 w (W.heap.size + 1) rz) => (show Calls Try.prog 42 #[.pointer (some ⟨W.heap.size + 1, 0, none⟩), .bool q] w (fun e w' => e = .returned (.int .i64 (ec : Int)) ∧ w = w') by rw [hec]; exact ended_any _ _ _ _ h))
      have HCC := Lib.hid hc
      have x0 := cell_of_row _ _ 0 _ _ (0, 0) HX.out
      have x1 := cell_of_row _ _ 1 _ _ (0, 0) HX.out
      have x2 := cell_of_row _ _ 2 _ _ (0, 0) HX.out
      have x3 := cell_of_row _ _ 3 _ _ (0, 0) HX.out
      have x4 := cell_of_row _ _ 4 _ _ (0, 0) HX.out
      have x5 := cell_of_row _ _ 5 _ _ (0, 0) HX.out
      have x6 := cell_of_row _ _ 6 _ _ (0, 0) HX.out
      have x7 := cell_of_row _ _ 7 _ _ (0, 0) HX.out
      have x8 := cell_of_row _ _ 8 _ _ (0, 0) HX.out
      have x9 := cell_of_row _ _ 9 _ _ (0, 0) HX.out
      clear hc hq hec hSS
      go_wp2_with fail
      refine (HGD.out _ (Below.refl _ _)).mono ?_
      rintro e v1 ⟨rfl, hb1⟩
      have HR1 := Lib.hid (HR.out.under hb1)
      have HX1 := Lib.hid ((hb1.block _ (Gn.heap_lt HX.out)).trans HX.out)
      have HO1 := Lib.hid (show Strs v1 A n (zs.map mkS) from Strs.under (strs_own HO.out) hb1)
      have ho1 : v1.ownsRow w6.heap.size 9 1 (.slice A n cap) n (zs.map strV) := by
        refine ⟨HO.out.1, ?_⟩
        rcases HO.out.2 with h2 | ⟨r, cp, cur, hv, hbr, hhr, hrest⟩
        · exact .inl h2
        · exact .inr ⟨r, cp, cur, hv, hbr, (hb1.block r (Gn.heap_lt hhr)).trans hhr, hrest⟩
      have HW1 := Lib.hid ho1
      clear hb1 ho1 x0 x1 x2 x3 x4 x5 x6 x7 x8 x9
      go_wp2_with fail
      refine (HE.out _ HR1.out.inn).mono ?_
      rintro e v2 ⟨rfl, rfl⟩
      by_cases hz : ec = 0
      · subst hz
        have HGF := Lib.hid (show getC (bs s) = (c, 0) by rw [HG.out, if_pos rfl])
        have y0 := cell_of_row _ _ 0 _ _ (0, 0) HR1.out.res
        have z0 := Gn.frozen_row HR1.out.res 0
        have y1 := cell_of_row _ _ 1 _ _ (0, 0) HR1.out.res
        have z1 := Gn.frozen_row HR1.out.res 1
        have y2 := cell_of_row _ _ 2 _ _ (0, 0) HR1.out.res
        have z2 := Gn.frozen_row HR1.out.res 2
        have y3 := cell_of_row _ _ 3 _ _ (0, 0) HR1.out.res
        have z3 := Gn.frozen_row HR1.out.res 3
        have y4 := cell_of_row _ _ 4 _ _ (0, 0) HR1.out.res
        have z4 := Gn.frozen_row HR1.out.res 4
        have y5 := cell_of_row _ _ 5 _ _ (0, 0) HR1.out.res
        have z5 := Gn.frozen_row HR1.out.res 5
        have y6 := cell_of_row _ _ 6 _ _ (0, 0) HR1.out.res
        have z6 := Gn.frozen_row HR1.out.res 6
        have y7 := cell_of_row _ _ 7 _ _ (0, 0) HR1.out.res
        have z7 := Gn.frozen_row HR1.out.res 7
        have y8 := cell_of_row _ _ 8 _ _ (0, 0) HR1.out.res
        have z8 := Gn.frozen_row HR1.out.res 8
        have y9 := cell_of_row _ _ 9 _ _ (0, 0) HR1.out.res
        have z9 := Gn.frozen_row HR1.out.res 9
        have x0 := cell_of_row _ _ 0 _ _ (0, 0) HX1.out
        have x1 := cell_of_row _ _ 1 _ _ (0, 0) HX1.out
        have x2 := cell_of_row _ _ 2 _ _ (0, 0) HX1.out
        have x3 := cell_of_row _ _ 3 _ _ (0, 0) HX1.out
        have x4 := cell_of_row _ _ 4 _ _ (0, 0) HX1.out
        have x5 := cell_of_row _ _ 5 _ _ (0, 0) HX1.out
        have x6 := cell_of_row _ _ 6 _ _ (0, 0) HX1.out
        have x7 := cell_of_row _ _ 7 _ _ (0, 0) HX1.out
        have x8 := cell_of_row _ _ 8 _ _ (0, 0) HX1.out
        have x9 := cell_of_row _ _ 9 _ _ (0, 0) HX1.out
        have HS10 := Lib.hid (set10 HR1.out.res (.int .i64 k0) (.string swho) (.string snm) (.string soth) (.string stxt) (.slice A n cap) (.int .i64 m0) (.int .i64 m1) (.int .i64 m2) (.int .i64 m3))
        have HB10 := Lib.hid (below10 (Nat.le_refl _) HR1.out.bel (.int .i64 k0) (.string swho) (.string snm) (.string soth) (.string stxt) (.slice A n cap) (.int .i64 m0) (.int .i64 m1) (.int .i64 m2) (.int .i64 m3))
        have HK10 := Lib.hid (fun (r : Nat) (hr : r ≠ W.heap.size) => cell10 (w := v1) hr (.int .i64 k0) (.string swho) (.string snm) (.string soth) (.string stxt) (.slice A n cap) (.int .i64 m0) (.int .i64 m1) (.int .i64 m2) (.int .i64 m3))
        go_wp2_with fail
        refine bodyPost_ret (results_ct (P := Try.prog) rfl _ _ W.heap.size 28 _ (0, 0) _ _ rfl rfl HS10.out Try.underlying28 rfl (by kernel_rfl)) rfl ?_
        rw [HGF.out]
        refine ⟨_, rfl, ⟨A, cap, ?_, ?_⟩, HB10.out⟩
        · rw [HCC.out]; dsimp only; rw [List.length_map, ← HN.out]
        · rw [HCC.out]; dsimp only; rw [List.length_map, ← HN.out]; exact strs_own (own_far HW1.out HR1.out.res (by decide) HK10.out)
      · have hz1 : ((ec : Int) != 0) = true := by rw [bne_iff_ne]; omega
        have HGF := Lib.hid (show getC (bs s) = (zeroC, ec) by rw [HG.out, if_neg hz])
        clear hz
        have y0 := cell_of_row _ _ 0 _ _ (0, 0) HR1.out.res
        have z0 := Gn.frozen_row HR1.out.res 0
        have y1 := cell_of_row _ _ 1 _ _ (0, 0) HR1.out.res
        have z1 := Gn.frozen_row HR1.out.res 1
        have y2 := cell_of_row _ _ 2 _ _ (0, 0) HR1.out.res
        have z2 := Gn.frozen_row HR1.out.res 2
        have y3 := cell_of_row _ _ 3 _ _ (0, 0) HR1.out.res
        have z3 := Gn.frozen_row HR1.out.res 3
        have y4 := cell_of_row _ _ 4 _ _ (0, 0) HR1.out.res
        have z4 := Gn.frozen_row HR1.out.res 4
        have y5 := cell_of_row _ _ 5 _ _ (0, 0) HR1.out.res
        have z5 := Gn.frozen_row HR1.out.res 5
        have y6 := cell_of_row _ _ 6 _ _ (0, 0) HR1.out.res
        have z6 := Gn.frozen_row HR1.out.res 6
        have y7 := cell_of_row _ _ 7 _ _ (0, 0) HR1.out.res
        have z7 := Gn.frozen_row HR1.out.res 7
        have y8 := cell_of_row _ _ 8 _ _ (0, 0) HR1.out.res
        have z8 := Gn.frozen_row HR1.out.res 8
        have y9 := cell_of_row _ _ 9 _ _ (0, 0) HR1.out.res
        have z9 := Gn.frozen_row HR1.out.res 9
        have HS10 := Lib.hid (set10 HR1.out.res (.int .i64 0) (.string ⟨#[]⟩) (.string ⟨#[]⟩) (.string ⟨#[]⟩) (.string ⟨#[]⟩) (.slice none 0 0) (.int .i64 0) (.int .i64 0) (.int .i64 0) (.int .i64 0))
        have HB10 := Lib.hid (below10 (Nat.le_refl _) HR1.out.bel (.int .i64 0) (.string ⟨#[]⟩) (.string ⟨#[]⟩) (.string ⟨#[]⟩) (.string ⟨#[]⟩) (.slice none 0 0) (.int .i64 0) (.int .i64 0) (.int .i64 0) (.int .i64 0))
        have HK10 := Lib.hid (fun (r : Nat) (hr : r ≠ W.heap.size) => cell10 (w := v1) hr (.int .i64 0) (.string ⟨#[]⟩) (.string ⟨#[]⟩) (.string ⟨#[]⟩) (.string ⟨#[]⟩) (.slice none 0 0) (.int .i64 0) (.int .i64 0) (.int .i64 0) (.int .i64 0))
        go_wp2_with fail
        refine bodyPost_ret (results_ct (P := Try.prog) rfl _ _ W.heap.size 28 _ (0, 0) _ _ rfl rfl HS10.out Try.underlying28 rfl (by kernel_rfl)) rfl ?_
        rw [HGF.out]
        exact ⟨_, rfl, zero_at _, HB10.out⟩
end Go.Proofs.Ytbkfbejbloclgaa.Cm
