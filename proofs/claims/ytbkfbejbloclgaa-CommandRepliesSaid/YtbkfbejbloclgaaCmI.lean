/-
  Layer 21: Get, the document's.
-/
import Derived.Test.YtbkfbejbloclgaaCmG
import Derived.Test.YtbkfbejbloclgaaCmD
namespace Go.Proofs.Ytbkfbejbloclgaa.Cm
open Go.RowKit
open Oct (pb bs Strs rInt rText rTexts rErr rEnd At Sep Gives strV)
open Lx (goodB)
open Gn (Asks)
set_option maxRecDepth 100000
set_option linter.unusedSimpArgs false
set_option linter.unusedVariables false

set_option maxHeartbeats 16000000 in
theorem rget_any (s : ByteArray) (hs : s.size ≤ 9223372036854775807) (W : World) :
    Calls Try.prog 16 #[.string s] W (GetOut W (getC (bs s))) := by
  obtain ⟨V2, hV2⟩ : ∃ V2, V2 = (W.alloc (.cells #[.int .i64 0, .string ⟨#[]⟩, .string ⟨#[]⟩, .string ⟨#[]⟩, .string ⟨#[]⟩, .slice none 0 0, .int .i64 0, .int .i64 0, .int .i64 0, .int .i64 0] 29)).alloc (.cells #[.string s, .int .i64 0] 85) := ⟨_, rfl⟩
  have hb : Below W.heap.size W V2 := by rw [hV2]; exact ((Below.refl _ W).alloc (Nat.le_refl _) _).alloc (by simp) _
  have hx0 : V2.heap[W.heap.size]? = some (.cells #[.int .i64 0, .string ⟨#[]⟩, .string ⟨#[]⟩, .string ⟨#[]⟩, .string ⟨#[]⟩, .slice none 0 0, .int .i64 0, .int .i64 0, .int .i64 0, .int .i64 0] 29 (0, 0)) := by rw [hV2]; exact (heap_alloc_old _ _ (by simp)).trans (heap_alloc_new W _)
  have hx1 : V2.heap[W.heap.size + 1]? = some (.cells #[.string s, .int .i64 0] 85 (0, 0)) := by
    rw [hV2]; have := heap_alloc_new (W.alloc (.cells #[.int .i64 0, .string ⟨#[]⟩, .string ⟨#[]⟩, .string ⟨#[]⟩, .string ⟨#[]⟩, .slice none 0 0, .int .i64 0, .int .i64 0, .int .i64 0, .int .i64 0] 29)) (.cells #[.string s, .int .i64 0] 85); simpa using this
  have HR0 := Lib.hid (show Rd 85 29 #[.int .i64 0, .string ⟨#[]⟩, .string ⟨#[]⟩, .string ⟨#[]⟩, .string ⟨#[]⟩, .slice none 0 0, .int .i64 0, .int .i64 0, .int .i64 0, .int .i64 0] W V2 (.ok (bs s)) from ⟨hb, hx0, ⟨s, rfl, hs, hx1⟩⟩)
  obtain ⟨r0, hr0⟩ : ∃ r, r = (.ok (bs s) : Oct.Rest) := ⟨_, rfl⟩
  rw [← hr0] at HR0
  have HG := Lib.hid (show getC (bs s) = if endC (goodC (readC r0).1) (readC r0).2 = 0 then ((readC r0).1, 0) else (zeroC, endC (goodC (readC r0).1) (readC r0).2) by rw [hr0]; rfl)
  have HFT := Lib.hid (readC_fits r0)
  have HV2 := Lib.hid hV2
  clear hb hx0 hx1 hV2 hr0 hs
  obtain ⟨k0, r1, e0⟩ : ∃ k r, rInt r0 = (k, r) := ⟨_, _, rfl⟩
  obtain ⟨who, r2, e1⟩ : ∃ k r, rText r1 = (k, r) := ⟨_, _, rfl⟩
  obtain ⟨nm, r3, e2⟩ : ∃ k r, rText r2 = (k, r) := ⟨_, _, rfl⟩
  obtain ⟨oth, r4, e3⟩ : ∃ k r, rText r3 = (k, r) := ⟨_, _, rfl⟩
  obtain ⟨txt, r5, e4⟩ : ∃ k r, rText r4 = (k, r) := ⟨_, _, rfl⟩
  obtain ⟨zs, r6, e5⟩ : ∃ k r, rTexts 64 r5 = (k, r) := ⟨_, _, rfl⟩
  have HRC := Lib.hid (show readC r0 = (⟨k0, mkS who, mkS nm, mkS oth, mkS txt, zs.map mkS, (rNums r6 4).1.getD 0 0, (rNums r6 4).1.getD 1 0, (rNums r6 4).1.getD 2 0, (rNums r6 4).1.getD 3 0⟩, (rNums r6 4).2) by
    unfold readC
    rw [e0]
    dsimp only
    rw [e1]
    dsimp only
    rw [e2]
    dsimp only
    rw [e3]
    dsimp only
    rw [e4]
    dsimp only
    rw [e5])
  rw [HRC.out] at HG HFT
  dsimp only at HG
  obtain ⟨swho, h1⟩ : ∃ x, x = mkS who := ⟨_, rfl⟩
  obtain ⟨snm, h2⟩ : ∃ x, x = mkS nm := ⟨_, rfl⟩
  obtain ⟨soth, h3⟩ : ∃ x, x = mkS oth := ⟨_, rfl⟩
  obtain ⟨stxt, h4⟩ : ∃ x, x = mkS txt := ⟨_, rfl⟩
  rw [← h1, ← h2, ← h3, ← h4] at HG HFT
  have HI0 := Lib.hid (fun (w : World) (h : At 85 w (W.heap.size + 1) r0) => (show Calls Try.prog 44 #[.pointer (some ⟨W.heap.size + 1, 0, none⟩)] w (Gives 85 w (W.heap.size + 1) (.int .i64 k0) r1) by have := Oct.ref_int _ _ _ h; rw [e0] at this; exact this))
  have HI1 := Lib.hid (fun (w : World) (h : At 85 w (W.heap.size + 1) r1) => (show Calls Try.prog 45 #[.pointer (some ⟨W.heap.size + 1, 0, none⟩)] w (Gives 85 w (W.heap.size + 1) (.string swho) r2) by have := Oct.ref_text _ _ _ h; rw [e1] at this; rw [h1]; exact this))
  have HI2 := Lib.hid (fun (w : World) (h : At 85 w (W.heap.size + 1) r2) => (show Calls Try.prog 45 #[.pointer (some ⟨W.heap.size + 1, 0, none⟩)] w (Gives 85 w (W.heap.size + 1) (.string snm) r3) by have := Oct.ref_text _ _ _ h; rw [e2] at this; rw [h2]; exact this))
  have HI3 := Lib.hid (fun (w : World) (h : At 85 w (W.heap.size + 1) r3) => (show Calls Try.prog 45 #[.pointer (some ⟨W.heap.size + 1, 0, none⟩)] w (Gives 85 w (W.heap.size + 1) (.string soth) r4) by have := Oct.ref_text _ _ _ h; rw [e3] at this; rw [h3]; exact this))
  have HI4 := Lib.hid (fun (w : World) (h : At 85 w (W.heap.size + 1) r4) => (show Calls Try.prog 45 #[.pointer (some ⟨W.heap.size + 1, 0, none⟩)] w (Gives 85 w (W.heap.size + 1) (.string stxt) r5) by have := Oct.ref_text _ _ _ h; rw [e4] at this; rw [h4]; exact this))
  have HI5 := Lib.hid (fun (w : World) (h : At 85 w (W.heap.size + 1) r5) => (show Calls Try.prog 46 #[.pointer (some ⟨W.heap.size + 1, 0, none⟩), .int .i64 64] w (Oct.GivesStrs 85 w (W.heap.size + 1) (zs, r6)) by have := Oct.ref_texts _ 64 _ _ h; rw [e5] at this; exact this))
  clear e0 e1 e2 e3 e4 e5 h1 h2 h3 h4 HRC
  go_enter Try.func16, Try.ntmps16
  go_upto_region 2 with fail
  rw [← HV2.out]
  go_wp2_with fail
  refine (HI0.out _ HR0.out.inn).mono ?_
  rintro e v2 ⟨rfl, ha, hs⟩
  have HR1 := Lib.hid (HR0.out.sep hs ha)
  obtain ⟨U1, hU⟩ : ∃ U, U = v2.alloc (.cells #[.int .i64 k0, .string ⟨#[]⟩, .string ⟨#[]⟩, .string ⟨#[]⟩, .string ⟨#[]⟩, .slice none 0 0, .int .i64 0, .int .i64 0, .int .i64 0, .int .i64 0] 29) := ⟨_, rfl⟩
  have hbU : Below v2.heap.size v2 U1 := by rw [hU]; exact (Below.refl _ _).alloc (Nat.le_refl _) _
  have hxU : U1.heap[v2.heap.size]? = some (.cells #[.int .i64 k0, .string ⟨#[]⟩, .string ⟨#[]⟩, .string ⟨#[]⟩, .string ⟨#[]⟩, .slice none 0 0, .int .i64 0, .int .i64 0, .int .i64 0, .int .i64 0] 29 (0, 0)) := by rw [hU]; exact heap_alloc_new _ _
  obtain ⟨g, hg⟩ : ∃ g, g = v2.heap.size := ⟨_, rfl⟩
  rw [← hg] at hxU
  have HGL := Lib.hid (show W.heap.size + 1 < g by have := HR1.out.lt; omega)
  have HS1 := Lib.hid (HR1.out.under hbU)
  have HX1 := Lib.hid hxU
  have HU := Lib.hid hU
  have HGE := Lib.hid hg
  clear ha hs hbU hxU hU hg
  go_upto_region 3 with fail
  rw [← HU.out, ← HGE.out]
  go_wp2_with fail
  refine (HI1.out _ HS1.out.inn).mono ?_
  rintro e v ⟨rfl, ha, hs⟩
  have hx := (hs.block g (Gn.heap_lt HX1.out) (by have := HGL.out; omega)).trans HX1.out
  have hr := HS1.out.sep hs ha
  have hset := Gn.heap_set hx 1 (.string swho)
  rw [show (#[.int .i64 k0, .string ⟨#[]⟩, .string ⟨#[]⟩, .string ⟨#[]⟩, .string ⟨#[]⟩, .slice none 0 0, .int .i64 0, .int .i64 0, .int .i64 0, .int .i64 0] : Array Value).setIfInBounds 1 (.string swho) = #[.int .i64 k0, .string swho, .string ⟨#[]⟩, .string ⟨#[]⟩, .string ⟨#[]⟩, .slice none 0 0, .int .i64 0, .int .i64 0, .int .i64 0, .int .i64 0] from rfl] at hset
  have gce := cell_of_row _ _ 1 _ _ (0, 0) hx
  have gfr := Gn.frozen_row hx 1
  obtain ⟨U2, hU⟩ : ∃ U, U = v.setCell ⟨g, 1, none⟩ (.string swho) := ⟨_, rfl⟩
  rw [← hU] at hset
  have hkeep : ∀ r, r ≠ g → U2.heap[r]? = v.heap[r]? := fun r hr => by rw [hU]; exact Gn.set_keep _ _ _ (fun e => hr e.symm)
  have HS2 := Lib.hid (show Rd 85 29 #[.int .i64 0, .string ⟨#[]⟩, .string ⟨#[]⟩, .string ⟨#[]⟩, .string ⟨#[]⟩, .slice none 0 0, .int .i64 0, .int .i64 0, .int .i64 0, .int .i64 0] W U2 r2 from ⟨by rw [hU]; exact hr.bel.setCell (by have := HGL.out; show W.heap.size ≤ g; omega) _, (hkeep _ (by have := HGL.out; omega)).trans hr.res, hr.inn.block (hkeep _ (by have := HGL.out; omega))⟩)
  have HX2 := Lib.hid hset
  have HU2 := Lib.hid hU
  clear ha hs hx hr hset hU hkeep
  go_upto_region 4 with fail
  rw [← HU2.out]
  clear gce gfr
  go_wp2_with fail
  refine (HI2.out _ HS2.out.inn).mono ?_
  rintro e v ⟨rfl, ha, hs⟩
  have hx := (hs.block g (Gn.heap_lt HX2.out) (by have := HGL.out; omega)).trans HX2.out
  have hr := HS2.out.sep hs ha
  have hset := Gn.heap_set hx 2 (.string snm)
  rw [show (#[.int .i64 k0, .string swho, .string ⟨#[]⟩, .string ⟨#[]⟩, .string ⟨#[]⟩, .slice none 0 0, .int .i64 0, .int .i64 0, .int .i64 0, .int .i64 0] : Array Value).setIfInBounds 2 (.string snm) = #[.int .i64 k0, .string swho, .string snm, .string ⟨#[]⟩, .string ⟨#[]⟩, .slice none 0 0, .int .i64 0, .int .i64 0, .int .i64 0, .int .i64 0] from rfl] at hset
  have gce := cell_of_row _ _ 2 _ _ (0, 0) hx
  have gfr := Gn.frozen_row hx 2
  obtain ⟨U3, hU⟩ : ∃ U, U = v.setCell ⟨g, 2, none⟩ (.string snm) := ⟨_, rfl⟩
  rw [← hU] at hset
  have hkeep : ∀ r, r ≠ g → U3.heap[r]? = v.heap[r]? := fun r hr => by rw [hU]; exact Gn.set_keep _ _ _ (fun e => hr e.symm)
  have HS3 := Lib.hid (show Rd 85 29 #[.int .i64 0, .string ⟨#[]⟩, .string ⟨#[]⟩, .string ⟨#[]⟩, .string ⟨#[]⟩, .slice none 0 0, .int .i64 0, .int .i64 0, .int .i64 0, .int .i64 0] W U3 r3 from ⟨by rw [hU]; exact hr.bel.setCell (by have := HGL.out; show W.heap.size ≤ g; omega) _, (hkeep _ (by have := HGL.out; omega)).trans hr.res, hr.inn.block (hkeep _ (by have := HGL.out; omega))⟩)
  have HX3 := Lib.hid hset
  have HU3 := Lib.hid hU
  clear ha hs hx hr hset hU hkeep
  go_upto_region 5 with fail
  rw [← HU3.out]
  clear gce gfr
  go_wp2_with fail
  refine (HI3.out _ HS3.out.inn).mono ?_
  rintro e v ⟨rfl, ha, hs⟩
  have hx := (hs.block g (Gn.heap_lt HX3.out) (by have := HGL.out; omega)).trans HX3.out
  have hr := HS3.out.sep hs ha
  have hset := Gn.heap_set hx 3 (.string soth)
  rw [show (#[.int .i64 k0, .string swho, .string snm, .string ⟨#[]⟩, .string ⟨#[]⟩, .slice none 0 0, .int .i64 0, .int .i64 0, .int .i64 0, .int .i64 0] : Array Value).setIfInBounds 3 (.string soth) = #[.int .i64 k0, .string swho, .string snm, .string soth, .string ⟨#[]⟩, .slice none 0 0, .int .i64 0, .int .i64 0, .int .i64 0, .int .i64 0] from rfl] at hset
  have gce := cell_of_row _ _ 3 _ _ (0, 0) hx
  have gfr := Gn.frozen_row hx 3
  obtain ⟨U4, hU⟩ : ∃ U, U = v.setCell ⟨g, 3, none⟩ (.string soth) := ⟨_, rfl⟩
  rw [← hU] at hset
  have hkeep : ∀ r, r ≠ g → U4.heap[r]? = v.heap[r]? := fun r hr => by rw [hU]; exact Gn.set_keep _ _ _ (fun e => hr e.symm)
  have HS4 := Lib.hid (show Rd 85 29 #[.int .i64 0, .string ⟨#[]⟩, .string ⟨#[]⟩, .string ⟨#[]⟩, .string ⟨#[]⟩, .slice none 0 0, .int .i64 0, .int .i64 0, .int .i64 0, .int .i64 0] W U4 r4 from ⟨by rw [hU]; exact hr.bel.setCell (by have := HGL.out; show W.heap.size ≤ g; omega) _, (hkeep _ (by have := HGL.out; omega)).trans hr.res, hr.inn.block (hkeep _ (by have := HGL.out; omega))⟩)
  have HX4 := Lib.hid hset
  have HU4 := Lib.hid hU
  clear ha hs hx hr hset hU hkeep
  go_upto_region 6 with fail
  rw [← HU4.out]
  clear gce gfr
  go_wp2_with fail
  refine (HI4.out _ HS4.out.inn).mono ?_
  rintro e v ⟨rfl, ha, hs⟩
  have hx := (hs.block g (Gn.heap_lt HX4.out) (by have := HGL.out; omega)).trans HX4.out
  have hr := HS4.out.sep hs ha
  have hset := Gn.heap_set hx 4 (.string stxt)
  rw [show (#[.int .i64 k0, .string swho, .string snm, .string soth, .string ⟨#[]⟩, .slice none 0 0, .int .i64 0, .int .i64 0, .int .i64 0, .int .i64 0] : Array Value).setIfInBounds 4 (.string stxt) = #[.int .i64 k0, .string swho, .string snm, .string soth, .string stxt, .slice none 0 0, .int .i64 0, .int .i64 0, .int .i64 0, .int .i64 0] from rfl] at hset
  have gce := cell_of_row _ _ 4 _ _ (0, 0) hx
  have gfr := Gn.frozen_row hx 4
  obtain ⟨U5, hU⟩ : ∃ U, U = v.setCell ⟨g, 4, none⟩ (.string stxt) := ⟨_, rfl⟩
  rw [← hU] at hset
  have hkeep : ∀ r, r ≠ g → U5.heap[r]? = v.heap[r]? := fun r hr => by rw [hU]; exact Gn.set_keep _ _ _ (fun e => hr e.symm)
  have HS5 := Lib.hid (show Rd 85 29 #[.int .i64 0, .string ⟨#[]⟩, .string ⟨#[]⟩, .string ⟨#[]⟩, .string ⟨#[]⟩, .slice none 0 0, .int .i64 0, .int .i64 0, .int .i64 0, .int .i64 0] W U5 r5 from ⟨by rw [hU]; exact hr.bel.setCell (by have := HGL.out; show W.heap.size ≤ g; omega) _, (hkeep _ (by have := HGL.out; omega)).trans hr.res, hr.inn.block (hkeep _ (by have := HGL.out; omega))⟩)
  have HX5 := Lib.hid hset
  have HU5 := Lib.hid hU
  clear ha hs hx hr hset hU hkeep
  go_upto_region 7 with fail
  rw [← HU5.out]
  clear gce gfr
  go_wp2_with fail
  refine (HI5.out _ HS5.out.inn).mono ?_
  rintro e v ⟨A, cap, rfl, hown, ha, hs⟩
  dsimp only at hown ha
  obtain ⟨n, hn⟩ : ∃ n, n = zs.length := ⟨_, rfl⟩
  dsimp only
  rw [← hn] at hown ⊢
  have hx := (hs.block g (Gn.heap_lt HX5.out) (by have := HGL.out; omega)).trans HX5.out
  have hr := HS5.out.sep hs ha
  have hset := Gn.heap_set hx 5 (.slice A n cap)
  rw [show (#[.int .i64 k0, .string swho, .string snm, .string soth, .string stxt, .slice none 0 0, .int .i64 0, .int .i64 0, .int .i64 0, .int .i64 0] : Array Value).setIfInBounds 5 (.slice A n cap) = #[.int .i64 k0, .string swho, .string snm, .string soth, .string stxt, .slice A n cap, .int .i64 0, .int .i64 0, .int .i64 0, .int .i64 0] from rfl] at hset
  have gce := cell_of_row _ _ 5 _ _ (0, 0) hx
  have gfr := Gn.frozen_row hx 5
  obtain ⟨U6, hU⟩ : ∃ U, U = v.setCell ⟨g, 5, none⟩ (.slice A n cap) := ⟨_, rfl⟩
  rw [← hU] at hset
  have hkeep : ∀ r, r ≠ g → U6.heap[r]? = v.heap[r]? := fun r hr => by rw [hU]; exact Gn.set_keep _ _ _ (fun e => hr e.symm)
  have HOU := Lib.hid (own_far hown hx (by decide) hkeep)
  have HRU := Lib.hid (show Rd 85 29 #[.int .i64 0, .string ⟨#[]⟩, .string ⟨#[]⟩, .string ⟨#[]⟩, .string ⟨#[]⟩, .slice none 0 0, .int .i64 0, .int .i64 0, .int .i64 0, .int .i64 0] W U6 r6 from ⟨by rw [hU]; exact hr.bel.setCell (by have := HGL.out; show W.heap.size ≤ g; omega) _, (hkeep _ (by have := HGL.out; omega)).trans hr.res, hr.inn.block (hkeep _ (by have := HGL.out; omega))⟩)
  have HXU := Lib.hid hset
  have HU6 := Lib.hid hU
  have HN := Lib.hid hn
  clear ha hs hx hr hset hU hkeep hown hn
  go_upto_region 8 with fail
  rw [← HU6.out]
  clear gce gfr
  have HIN := Lib.hid (fun (w : World) (r : Oct.Rest) (h : At 85 w (W.heap.size + 1) r) => Oct.ref_int _ _ _ h)
  go_wp2_with fail
  go_loopw [6] (fun i wr => ∃ k : Nat, k ≤ 4 ∧ i = .int .i64 k ∧ Rd 85 29 #[.int .i64 0, .string ⟨#[]⟩, .string ⟨#[]⟩, .string ⟨#[]⟩, .string ⟨#[]⟩, .slice none 0 0, .int .i64 0, .int .i64 0, .int .i64 0, .int .i64 0] W wr (rNums r6 k).2 ∧ wr.ownsRow U5.heap.size 9 1 (.slice A n cap) n (zs.map strV) ∧ wr.heap[g]? = some (.cells #[.int .i64 k0, .string swho, .string snm, .string soth, .string stxt, .slice A n cap, .int .i64 ((rNums r6 k).1.getD 0 0), .int .i64 ((rNums r6 k).1.getD 1 0), .int .i64 ((rNums r6 k).1.getD 2 0), .int .i64 ((rNums r6 k).1.getD 3 0)] 29 (0, 0))) (fun i _ => 4 - (intOf i).toNat)
  case atStart => exact ⟨0, by omega, rfl, HRU.out, HOU.out, HXU.out⟩
  case round =>
    obtain ⟨k, hk, rfl, hr, ho, hx⟩ := hrel
    have HR := Lib.hid hr
    have HO := Lib.hid ho
    have HX := Lib.hid hx
    clear hr ho hx
    by_cases h4 : k < 4
    · have hlt4 : (k : Int) < 4 := by omega
      go_wp2_with fail
      refine (HIN.out _ _ HR.out.inn).mono ?_
      rintro e v9 ⟨rfl, ha, hs⟩
      have hx9 := (hs.block g (Gn.heap_lt HX.out) (by have := HGL.out; omega)).trans HX.out
      have ho9 := Oct.Sep.own hs HO.out (HR.out.inn.cells).choose_spec.choose_spec (by decide)
      have hr9 := HR.out.sep hs ha
      obtain ⟨x, hxx⟩ : ∃ x, x = (rInt (rNums r6 k).2).1 := ⟨_, rfl⟩
      rw [← hxx]
      have hset := Gn.heap_set hx9 (6 + k) (.int .i64 x)
      rw [set_num _ _ _ _ _ _ _ k (rNums_len _ _) h4] at hset
      rw [hxx, show (rNums r6 k).1 ++ [(rInt (rNums r6 k).2).1] = (rNums r6 (k + 1)).1 from rfl, ← hxx] at hset
      have hkeep : ∀ r, r ≠ g → (v9.setCell ⟨g, 6 + k, none⟩ (.int .i64 x)).heap[r]? = v9.heap[r]? := fun r hr => Gn.set_keep _ _ _ (fun e => hr e.symm)
      have hoo := own_far ho9 hx9 (by decide) hkeep
      have hrr : Rd 85 29 #[.int .i64 0, .string ⟨#[]⟩, .string ⟨#[]⟩, .string ⟨#[]⟩, .string ⟨#[]⟩, .slice none 0 0, .int .i64 0, .int .i64 0, .int .i64 0, .int .i64 0] W (v9.setCell ⟨g, 6 + k, none⟩ (.int .i64 x)) (rNums r6 (k + 1)).2 :=
        ⟨hr9.bel.setCell (by have := HGL.out; show W.heap.size ≤ g; omega) _, (hkeep _ (by have := HGL.out; omega)).trans hr9.res, hr9.inn.block (hkeep _ (by have := HGL.out; omega))⟩
      have HA := Lib.hid hset
      have HB := Lib.hid hoo
      have HC := Lib.hid hrr
      have gfr := Gn.frozen_row hx9 (6 + k)
      have gce : ∃ u, v9.cell? ⟨g, 6 + k, none⟩ = some u := by
        rcases (by omega : k = 0 ∨ k = 1 ∨ k = 2 ∨ k = 3) with rfl | rfl | rfl | rfl
        · exact ⟨_, cell_of_row _ _ 6 _ _ (0, 0) hx9⟩
        · exact ⟨_, cell_of_row _ _ 7 _ _ (0, 0) hx9⟩
        · exact ⟨_, cell_of_row _ _ 8 _ _ (0, 0) hx9⟩
        · exact ⟨_, cell_of_row _ _ 9 _ _ (0, 0) hx9⟩
      obtain ⟨u, gce⟩ := gce
      clear ha hs hx9 ho9 hr9 hxx hset hkeep hoo hrr
      go_wp2_with fail
      refine ⟨⟨k + 1, by omega, by go_num, HC.out, HB.out, HA.out⟩, by simp [intOf]; omega⟩
    · have hke : k = 4 := by omega
      subst hke
      obtain ⟨m0, hm0⟩ : ∃ m, m = (rNums r6 4).1.getD 0 0 := ⟨_, rfl⟩
      obtain ⟨m1, hm1⟩ : ∃ m, m = (rNums r6 4).1.getD 1 0 := ⟨_, rfl⟩
      obtain ⟨m2, hm2⟩ : ∃ m, m = (rNums r6 4).1.getD 2 0 := ⟨_, rfl⟩
      obtain ⟨m3, hm3⟩ : ∃ m, m = (rNums r6 4).1.getD 3 0 := ⟨_, rfl⟩
      obtain ⟨rz, hrz⟩ : ∃ m, m = (rNums r6 4).2 := ⟨_, rfl⟩
      rw [← hm0, ← hm1, ← hm2, ← hm3] at HX HG HFT
      rw [← hrz] at HR HG
      clear hm0 hm1 hm2 hm3 hrz
      cases rz with
      | error x =>
        obtain ⟨z0, z1, t, t3⟩ := HR.out.inn
        have c1 := cell_of_row wr _ 1 _ _ (0, 0) t3
        have hx : ((x : Int) != 0) = true := by rw [bne_iff_ne]; omega
        have HGF := Lib.hid (show getC (bs s) = (zeroC, x) by rw [HG.out]; exact if_neg z0)
        have HR1 := HR
        clear z0 z1 t3
        have y0 := cell_of_row _ _ 0 _ _ (0, 0) HR1.out.res
        have z0 := Gn.frozen_row HR1.out.res 0
        have y1 := cell_of_row _ _ 1 _ _ (0, 0) HR1.out.res
        have z1 := Gn.frozen_row HR1.out.res 1
        have y2 := cell_of_row _ _ 2 _ _ (0, 0) HR1.out.res
        have z2 := Gn.frozen_row HR1.out.res 2
        have y3 := cell_of_row _ _ 3 _ _ (0, 0) HR1.out.res
        have z3 := Gn.frozen_row HR1.out.res 3
        have y4 := cell_of_row _ _ 4 _ _ (0, 0) HR1.out.res
        have z4 := Gn.frozen_row HR1.out.res 4
        have y5 := cell_of_row _ _ 5 _ _ (0, 0) HR1.out.res
        have z5 := Gn.frozen_row HR1.out.res 5
        have y6 := cell_of_row _ _ 6 _ _ (0, 0) HR1.out.res
        have z6 := Gn.frozen_row HR1.out.res 6
        have y7 := cell_of_row _ _ 7 _ _ (0, 0) HR1.out.res
        have z7 := Gn.frozen_row HR1.out.res 7
        have y8 := cell_of_row _ _ 8 _ _ (0, 0) HR1.out.res
        have z8 := Gn.frozen_row HR1.out.res 8
        have y9 := cell_of_row _ _ 9 _ _ (0, 0) HR1.out.res
        have z9 := Gn.frozen_row HR1.out.res 9
        have HS10 := Lib.hid (set10 HR1.out.res (.int .i64 0) (.string ⟨#[]⟩) (.string ⟨#[]⟩) (.string ⟨#[]⟩) (.string ⟨#[]⟩) (.slice none 0 0) (.int .i64 0) (.int .i64 0) (.int .i64 0) (.int .i64 0))
        have HB10 := Lib.hid (below10 (Nat.le_refl _) HR1.out.bel (.int .i64 0) (.string ⟨#[]⟩) (.string ⟨#[]⟩) (.string ⟨#[]⟩) (.string ⟨#[]⟩) (.slice none 0 0) (.int .i64 0) (.int .i64 0) (.int .i64 0) (.int .i64 0))
        have HK10 := Lib.hid (fun (r : Nat) (hr : r ≠ W.heap.size) => cell10 (w := wr) hr (.int .i64 0) (.string ⟨#[]⟩) (.string ⟨#[]⟩) (.string ⟨#[]⟩) (.string ⟨#[]⟩) (.slice none 0 0) (.int .i64 0) (.int .i64 0) (.int .i64 0) (.int .i64 0))
        obtain ⟨X, hX⟩ : ∃ X, X = ((((((((((wr.setCell ⟨W.heap.size, 0, none⟩ (.int .i64 0)).setCell ⟨W.heap.size, 1, none⟩ (.string ⟨#[]⟩)).setCell ⟨W.heap.size, 2, none⟩ (.string ⟨#[]⟩)).setCell ⟨W.heap.size, 3, none⟩ (.string ⟨#[]⟩)).setCell ⟨W.heap.size, 4, none⟩ (.string ⟨#[]⟩)).setCell ⟨W.heap.size, 5, none⟩ (.slice none 0 0)).setCell ⟨W.heap.size, 6, none⟩ (.int .i64 0)).setCell ⟨W.heap.size, 7, none⟩ (.int .i64 0)).setCell ⟨W.heap.size, 8, none⟩ (.int .i64 0)).setCell ⟨W.heap.size, 9, none⟩ (.int .i64 0)) := ⟨_, rfl⟩
        have HS11 := Lib.hid (show X.heap[W.heap.size]? = some (.cells #[.int .i64 0, .string ⟨#[]⟩, .string ⟨#[]⟩, .string ⟨#[]⟩, .string ⟨#[]⟩, .slice none 0 0, .int .i64 0, .int .i64 0, .int .i64 0, .int .i64 0] 29 (0, 0)) by rw [hX]; exact HS10.out)
        have HB11 := Lib.hid (show Below W.heap.size W X by rw [hX]; exact HB10.out)
        have HK11 := Lib.hid (fun (r : Nat) (hr : r ≠ W.heap.size) => show X.heap[r]? = wr.heap[r]? by rw [hX]; exact HK10.out r hr)
        have HX := Lib.hid hX
        clear hX
        go_upto_region 13 with fail
        refine wp_region_noPanic ?_
        refine wp_region_held_drew (S := fun w => w.cell? ⟨W.heap.size + 1, 1, none⟩ = some (.int .i64 (x : Int))) (by kernel_rfl) ?_ (fun hHeld => ?_)
        · exact c1
        refine wpAnyH_take (i := 0) (v := ?_) rfl (by kernel_rfl) (by kernel_rfl) (by kernel_rfl) (fun _ _ _ h => h) (Or.inl ⟨by rfl, ?_⟩) (by assumption) ?_
        rotate_left
        · intro w hSw
          try dsimp only at hSw
          go_simp
          try with_reducible rfl
        try simp only [Act.put, List.setIfInBounds_toArray, List.set_cons_zero, List.set_cons_succ]
        refine wpAnyH_take (i := 1) (v := ?_) rfl (by kernel_rfl) (by kernel_rfl) (by kernel_rfl) (fun _ _ _ h => h) (Or.inl ⟨by rfl, ?_⟩) (by assumption) ?_
        rotate_left
        · intro w hSw
          try dsimp only at hSw
          go_simp
          try with_reducible rfl
        try simp only [Act.put, List.setIfInBounds_toArray, List.set_cons_zero, List.set_cons_succ]
        refine wpAnyH_take (i := 2) (v := ?_) rfl (by kernel_rfl) (by kernel_rfl) (by kernel_rfl) (fun _ _ _ h => h) (Or.inl ⟨by rfl, ?_⟩) (by assumption) ?_
        rotate_left
        · intro w hSw
          try dsimp only at hSw
          go_simp
          try with_reducible rfl
        try simp only [Act.put, List.setIfInBounds_toArray, List.set_cons_zero, List.set_cons_succ]
        refine wpAnyH_take (i := 3) (v := ?_) rfl (by kernel_rfl) (by kernel_rfl) (by kernel_rfl) (fun _ _ _ h => h) (Or.inl ⟨by rfl, ?_⟩) (by assumption) ?_
        rotate_left
        · intro w hSw
          try dsimp only at hSw
          go_simp
          try with_reducible rfl
        try simp only [Act.put, List.setIfInBounds_toArray, List.set_cons_zero, List.set_cons_succ]
        refine wpAnyH_take (i := 4) (v := ?_) rfl (by kernel_rfl) (by kernel_rfl) (by kernel_rfl) (fun _ _ _ h => h) (Or.inl ⟨by rfl, ?_⟩) (by assumption) ?_
        rotate_left
        · intro w hSw
          try dsimp only at hSw
          go_simp
          try with_reducible rfl
        try simp only [Act.put, List.setIfInBounds_toArray, List.set_cons_zero, List.set_cons_succ]
        refine wpAnyH_ready (rs := [5]) (by kernel_rfl) (by simp) ?_
        refine AllReadyH.cons rfl (fun K hK => ?_) AllReadyH.nil
        go_simp
        rw [← HX.out]
        refine hK.out _ _ ((Gn.cell_same (HK11.out _ (by omega)) 1).trans c1) (fun hHeld => ?_)
        clear hK K
        try simp only [Act.put, List.setIfInBounds_toArray, List.set_cons_zero, List.set_cons_succ]
        refine wpAnyH_ready (rs := [6]) (by kernel_rfl) (by simp) ?_
        refine AllReadyH.cons rfl (fun K hK => ?_) AllReadyH.nil
        go_simp
        refine hK.out _ _ (hHeld) (fun hHeld => ?_)
        clear hK K
        try simp only [Act.put, List.setIfInBounds_toArray, List.set_cons_zero, List.set_cons_succ]
        refine wpAnyH_done (by kernel_rfl) ?_ _
        refine NoPanic.normal ?_
        go_wp2_with fail
        refine bodyPost_ret (results_ct (P := Try.prog) rfl _ _ W.heap.size 29 _ (0, 0) _ _ rfl rfl HS11.out Try.underlying29 rfl (by kernel_rfl)) rfl ?_
        rw [HGF.out]
        exact ⟨_, rfl, zero_at _, Gn.below_drew HB11.out⟩
      | ok l =>
        obtain ⟨t, ht, _, t3⟩ := HR.out.inn
        have c1 := cell_of_row wr _ 1 _ _ (0, 0) t3
        obtain ⟨c, hc⟩ : ∃ c, c = (⟨k0, swho, snm, soth, stxt, zs.map mkS, m0, m1, m2, m3⟩ : Cmd) := ⟨_, rfl⟩
        have hSS := strs_own HO.out
        have HGD := Lib.hid (fun (w : World) (b : Below wr.heap.size wr w) => rgood_any k0 swho snm soth stxt (zs.map mkS) m0 m1 m2 m3 A n cap w (by rw [List.length_map]; exact HN.out.symm) (Strs.under hSS b) HFT.out.who HFT.out.nm HFT.out.oth HFT.out.txt (by have := HFT.out.word; have h2 := HN.out; dsimp only at this; rw [List.length_map] at this; omega))
        rw [← hc] at HGD HG
        obtain ⟨q, hq⟩ : ∃ q, q = goodC c := ⟨_, rfl⟩
        rw [← hq] at HGD HG
        have HCC := Lib.hid hc
        have HT3 := Lib.hid t3
        have HTL := Lib.hid ht
        have x0 := cell_of_row _ _ 0 _ _ (0, 0) HX.out
        have x1 := cell_of_row _ _ 1 _ _ (0, 0) HX.out
        have x2 := cell_of_row _ _ 2 _ _ (0, 0) HX.out
        have x3 := cell_of_row _ _ 3 _ _ (0, 0) HX.out
        have x4 := cell_of_row _ _ 4 _ _ (0, 0) HX.out
        have x5 := cell_of_row _ _ 5 _ _ (0, 0) HX.out
        have x6 := cell_of_row _ _ 6 _ _ (0, 0) HX.out
        have x7 := cell_of_row _ _ 7 _ _ (0, 0) HX.out
        have x8 := cell_of_row _ _ 8 _ _ (0, 0) HX.out
        have x9 := cell_of_row _ _ 9 _ _ (0, 0) HX.out
        clear hc hq hSS t3 ht
        go_wp2_with fail
        refine (HGD.out _ (Below.refl _ _)).mono ?_
        rintro e v1 ⟨rfl, hb1⟩
        have HR1 := Lib.hid (HR.out.under hb1)
        have HX1 := Lib.hid ((hb1.block _ (Gn.heap_lt HX.out)).trans HX.out)
        have ho1 : v1.ownsRow U5.heap.size 9 1 (.slice A n cap) n (zs.map strV) := by
          refine ⟨HO.out.1, ?_⟩
          rcases HO.out.2 with h2 | ⟨r, cp, cur, hv, hbr, hhr, hrest⟩
          · exact .inl h2
          · exact .inr ⟨r, cp, cur, hv, hbr, (hb1.block r (Gn.heap_lt hhr)).trans hhr, hrest⟩
        have HW1 := Lib.hid ho1
        have c0 := cell_of_row _ _ 0 _ _ (0, 0) ((hb1.block _ (Gn.heap_lt HT3.out)).trans HT3.out)
        clear hb1 ho1 x0 x1 x2 x3 x4 x5 x6 x7 x8 x9 c1
        cases q with
        | false =>
          have HGF := Lib.hid (show getC (bs s) = (zeroC, 2) by rw [HG.out]; rfl)
          have y0 := cell_of_row _ _ 0 _ _ (0, 0) HR1.out.res
          have z0 := Gn.frozen_row HR1.out.res 0
          have y1 := cell_of_row _ _ 1 _ _ (0, 0) HR1.out.res
          have z1 := Gn.frozen_row HR1.out.res 1
          have y2 := cell_of_row _ _ 2 _ _ (0, 0) HR1.out.res
          have z2 := Gn.frozen_row HR1.out.res 2
          have y3 := cell_of_row _ _ 3 _ _ (0, 0) HR1.out.res
          have z3 := Gn.frozen_row HR1.out.res 3
          have y4 := cell_of_row _ _ 4 _ _ (0, 0) HR1.out.res
          have z4 := Gn.frozen_row HR1.out.res 4
          have y5 := cell_of_row _ _ 5 _ _ (0, 0) HR1.out.res
          have z5 := Gn.frozen_row HR1.out.res 5
          have y6 := cell_of_row _ _ 6 _ _ (0, 0) HR1.out.res
          have z6 := Gn.frozen_row HR1.out.res 6
          have y7 := cell_of_row _ _ 7 _ _ (0, 0) HR1.out.res
          have z7 := Gn.frozen_row HR1.out.res 7
          have y8 := cell_of_row _ _ 8 _ _ (0, 0) HR1.out.res
          have z8 := Gn.frozen_row HR1.out.res 8
          have y9 := cell_of_row _ _ 9 _ _ (0, 0) HR1.out.res
          have z9 := Gn.frozen_row HR1.out.res 9
          have HS10 := Lib.hid (set10 HR1.out.res (.int .i64 0) (.string ⟨#[]⟩) (.string ⟨#[]⟩) (.string ⟨#[]⟩) (.string ⟨#[]⟩) (.slice none 0 0) (.int .i64 0) (.int .i64 0) (.int .i64 0) (.int .i64 0))
          have HB10 := Lib.hid (below10 (Nat.le_refl _) HR1.out.bel (.int .i64 0) (.string ⟨#[]⟩) (.string ⟨#[]⟩) (.string ⟨#[]⟩) (.string ⟨#[]⟩) (.slice none 0 0) (.int .i64 0) (.int .i64 0) (.int .i64 0) (.int .i64 0))
          have HK10 := Lib.hid (fun (r : Nat) (hr : r ≠ W.heap.size) => cell10 (w := v1) hr (.int .i64 0) (.string ⟨#[]⟩) (.string ⟨#[]⟩) (.string ⟨#[]⟩) (.string ⟨#[]⟩) (.slice none 0 0) (.int .i64 0) (.int .i64 0) (.int .i64 0) (.int .i64 0))
          go_wp2_with fail
          refine bodyPost_ret (results_ct (P := Try.prog) rfl _ _ W.heap.size 29 _ (0, 0) _ _ rfl rfl HS10.out Try.underlying29 rfl (by kernel_rfl)) rfl ?_
          rw [HGF.out]
          exact ⟨_, rfl, zero_at _, HB10.out⟩
        | true =>
          cases l with
          | nil =>
            have ht1 : t.toList = [] := by rw [ByteArray.toList_eq]; exact HTL.out
            have ht2 : t.toList.isEmpty = true := by rw [ht1]; rfl
            have ht3 : (!t.toList.isEmpty) = false := by rw [ht2]; rfl
            have HGF := Lib.hid (show getC (bs s) = (c, 0) by rw [HG.out]; rfl)
            have y0 := cell_of_row _ _ 0 _ _ (0, 0) HR1.out.res
            have z0 := Gn.frozen_row HR1.out.res 0
            have y1 := cell_of_row _ _ 1 _ _ (0, 0) HR1.out.res
            have z1 := Gn.frozen_row HR1.out.res 1
            have y2 := cell_of_row _ _ 2 _ _ (0, 0) HR1.out.res
            have z2 := Gn.frozen_row HR1.out.res 2
            have y3 := cell_of_row _ _ 3 _ _ (0, 0) HR1.out.res
            have z3 := Gn.frozen_row HR1.out.res 3
            have y4 := cell_of_row _ _ 4 _ _ (0, 0) HR1.out.res
            have z4 := Gn.frozen_row HR1.out.res 4
            have y5 := cell_of_row _ _ 5 _ _ (0, 0) HR1.out.res
            have z5 := Gn.frozen_row HR1.out.res 5
            have y6 := cell_of_row _ _ 6 _ _ (0, 0) HR1.out.res
            have z6 := Gn.frozen_row HR1.out.res 6
            have y7 := cell_of_row _ _ 7 _ _ (0, 0) HR1.out.res
            have z7 := Gn.frozen_row HR1.out.res 7
            have y8 := cell_of_row _ _ 8 _ _ (0, 0) HR1.out.res
            have z8 := Gn.frozen_row HR1.out.res 8
            have y9 := cell_of_row _ _ 9 _ _ (0, 0) HR1.out.res
            have z9 := Gn.frozen_row HR1.out.res 9
            have x0 := cell_of_row _ _ 0 _ _ (0, 0) HX1.out
            have x1 := cell_of_row _ _ 1 _ _ (0, 0) HX1.out
            have x2 := cell_of_row _ _ 2 _ _ (0, 0) HX1.out
            have x3 := cell_of_row _ _ 3 _ _ (0, 0) HX1.out
            have x4 := cell_of_row _ _ 4 _ _ (0, 0) HX1.out
            have x5 := cell_of_row _ _ 5 _ _ (0, 0) HX1.out
            have x6 := cell_of_row _ _ 6 _ _ (0, 0) HX1.out
            have x7 := cell_of_row _ _ 7 _ _ (0, 0) HX1.out
            have x8 := cell_of_row _ _ 8 _ _ (0, 0) HX1.out
            have x9 := cell_of_row _ _ 9 _ _ (0, 0) HX1.out
            have HS10 := Lib.hid (set10 HR1.out.res (.int .i64 k0) (.string swho) (.string snm) (.string soth) (.string stxt) (.slice A n cap) (.int .i64 m0) (.int .i64 m1) (.int .i64 m2) (.int .i64 m3))
            have HB10 := Lib.hid (below10 (Nat.le_refl _) HR1.out.bel (.int .i64 k0) (.string swho) (.string snm) (.string soth) (.string stxt) (.slice A n cap) (.int .i64 m0) (.int .i64 m1) (.int .i64 m2) (.int .i64 m3))
            have HK10 := Lib.hid (fun (r : Nat) (hr : r ≠ W.heap.size) => cell10 (w := v1) hr (.int .i64 k0) (.string swho) (.string snm) (.string soth) (.string stxt) (.slice A n cap) (.int .i64 m0) (.int .i64 m1) (.int .i64 m2) (.int .i64 m3))
            go_wp2_with fail
            refine bodyPost_ret (results_ct (P := Try.prog) rfl _ _ W.heap.size 29 _ (0, 0) _ _ rfl rfl HS10.out Try.underlying29 rfl (by kernel_rfl)) rfl ?_
            rw [HGF.out]
            refine ⟨_, rfl, ⟨A, cap, ?_, ?_⟩, HB10.out⟩
            · rw [HCC.out]; dsimp only; rw [List.length_map, ← HN.out]
            · rw [HCC.out]; dsimp only; rw [List.length_map, ← HN.out]; exact strs_own (own_far HW1.out HR1.out.res (by decide) HK10.out)
          | cons y ys =>
            have ht1 : ¬ t.toList = [] := by rw [ByteArray.toList_eq]; show ¬ bs t = []; rw [HTL.out]; simp
            have ht2 : t.toList.isEmpty = false := by rw [List.isEmpty_eq_false_iff]; exact ht1
            have ht3 : (!t.toList.isEmpty) = true := by rw [ht2]; rfl
            have HGF := Lib.hid (show getC (bs s) = (zeroC, 4) by rw [HG.out]; rfl)
            have y0 := cell_of_row _ _ 0 _ _ (0, 0) HR1.out.res
            have z0 := Gn.frozen_row HR1.out.res 0
            have y1 := cell_of_row _ _ 1 _ _ (0, 0) HR1.out.res
            have z1 := Gn.frozen_row HR1.out.res 1
            have y2 := cell_of_row _ _ 2 _ _ (0, 0) HR1.out.res
            have z2 := Gn.frozen_row HR1.out.res 2
            have y3 := cell_of_row _ _ 3 _ _ (0, 0) HR1.out.res
            have z3 := Gn.frozen_row HR1.out.res 3
            have y4 := cell_of_row _ _ 4 _ _ (0, 0) HR1.out.res
            have z4 := Gn.frozen_row HR1.out.res 4
            have y5 := cell_of_row _ _ 5 _ _ (0, 0) HR1.out.res
            have z5 := Gn.frozen_row HR1.out.res 5
            have y6 := cell_of_row _ _ 6 _ _ (0, 0) HR1.out.res
            have z6 := Gn.frozen_row HR1.out.res 6
            have y7 := cell_of_row _ _ 7 _ _ (0, 0) HR1.out.res
            have z7 := Gn.frozen_row HR1.out.res 7
            have y8 := cell_of_row _ _ 8 _ _ (0, 0) HR1.out.res
            have z8 := Gn.frozen_row HR1.out.res 8
            have y9 := cell_of_row _ _ 9 _ _ (0, 0) HR1.out.res
            have z9 := Gn.frozen_row HR1.out.res 9
            have HS10 := Lib.hid (set10 HR1.out.res (.int .i64 0) (.string ⟨#[]⟩) (.string ⟨#[]⟩) (.string ⟨#[]⟩) (.string ⟨#[]⟩) (.slice none 0 0) (.int .i64 0) (.int .i64 0) (.int .i64 0) (.int .i64 0))
            have HB10 := Lib.hid (below10 (Nat.le_refl _) HR1.out.bel (.int .i64 0) (.string ⟨#[]⟩) (.string ⟨#[]⟩) (.string ⟨#[]⟩) (.string ⟨#[]⟩) (.slice none 0 0) (.int .i64 0) (.int .i64 0) (.int .i64 0) (.int .i64 0))
            have HK10 := Lib.hid (fun (r : Nat) (hr : r ≠ W.heap.size) => cell10 (w := v1) hr (.int .i64 0) (.string ⟨#[]⟩) (.string ⟨#[]⟩) (.string ⟨#[]⟩) (.string ⟨#[]⟩) (.slice none 0 0) (.int .i64 0) (.int .i64 0) (.int .i64 0) (.int .i64 0))
            go_wp2_with fail
            refine bodyPost_ret (results_ct (P := Try.prog) rfl _ _ W.heap.size 29 _ (0, 0) _ _ rfl rfl HS10.out Try.underlying29 rfl (by kernel_rfl)) rfl ?_
            rw [HGF.out]
            exact ⟨_, rfl, zero_at _, HB10.out⟩
end Go.Proofs.Ytbkfbejbloclgaa.Cm
