/-
  Layer 21: GetReply, the document's.
-/
import Derived.Test.YtbkfbejbloclgaaCmR3
namespace Go.Proofs.Ytbkfbejbloclgaa.Cm
open Go.RowKit
open Oct (pb bs Strs rInt rText rTexts rErr rEnd At Sep Gives strV OutSt OSep app eInt eText eTexts eLen rng)
open Lx (goodB)
open Gn (Asks)
open Mk (gm canon)
set_option maxRecDepth 100000
set_option linter.unusedSimpArgs false
set_option linter.unusedVariables false

theorem rmk_get (z : List UInt8) (w : World) : Calls Try.prog 54 #[.string (mkS z)] w fun e w' => e = .returned (.tuple #[.float .f64 (gm z).1, .int .i64 ((gm z).2 : Int)]) ∧ Below w.heap.size w w' := by
  have h := Mk.rget_any (mkS z) w
  rw [show Mk.bs (mkS z) = z from bs_mkS z] at h
  exact h
theorem own_grown {w w' : World} {base base2 : Nat} {e e2 : TypeId} {k k2 : Nat} {v v2 : Value} {n n2 : Nat} {xs ys : List Value} (h : w.ownsRow base e k v n xs) (hg : w.grownBy w' v2.ownBlock) (h2 : w.ownsRow base2 e2 k2 v2 n2 ys) (hne : e2 ≠ e) : w'.ownsRow base e k v n xs := by
  refine ⟨h.1, ?_⟩
  rcases h.2 with h3 | ⟨r, cp, cur, hv, hbr, hhr, hrest⟩
  · exact .inl h3
  · exact .inr ⟨r, cp, cur, hv, hbr, Oct.grown_keeps hg h2 hhr hne, hrest⟩

set_option maxHeartbeats 16000000 in
theorem rgetr_any (s : ByteArray) (hs : s.size ≤ 9223372036854775807) (W : World) :
    Calls Try.prog 23 #[.string s] W (RepOut W (getR (bs s))) := by
  obtain ⟨V2, hV2⟩ : ∃ V2, V2 = (W.alloc (.cells #[.int .i64 0, .int .i64 0, .int .i64 0, .int .i64 0, .string ⟨#[]⟩, .slice none 0 0, .slice none 0 0] 48)).alloc (.cells #[.string s, .int .i64 0] 85) := ⟨_, rfl⟩
  have hb : Below W.heap.size W V2 := by rw [hV2]; exact ((Below.refl _ W).alloc (Nat.le_refl _) _).alloc (by simp) _
  have hx0 : V2.heap[W.heap.size]? = some (.cells #[.int .i64 0, .int .i64 0, .int .i64 0, .int .i64 0, .string ⟨#[]⟩, .slice none 0 0, .slice none 0 0] 48 (0, 0)) := by rw [hV2]; exact (heap_alloc_old _ _ (by simp)).trans (heap_alloc_new W _)
  have hx1 : V2.heap[W.heap.size + 1]? = some (.cells #[.string s, .int .i64 0] 85 (0, 0)) := by
    rw [hV2]; have := heap_alloc_new (W.alloc (.cells #[.int .i64 0, .int .i64 0, .int .i64 0, .int .i64 0, .string ⟨#[]⟩, .slice none 0 0, .slice none 0 0] 48)) (.cells #[.string s, .int .i64 0] 85); simpa using this
  have HR0 := Lib.hid (show Rd 85 48 #[.int .i64 0, .int .i64 0, .int .i64 0, .int .i64 0, .string ⟨#[]⟩, .slice none 0 0, .slice none 0 0] W V2 (.ok (bs s)) from ⟨hb, hx0, ⟨s, rfl, hs, hx1⟩⟩)
  obtain ⟨r0, hr0⟩ : ∃ r, r = (.ok (bs s) : Oct.Rest) := ⟨_, rfl⟩
  rw [← hr0] at HR0
  have HG := Lib.hid (show getR (bs s) = if (readR r0).err = 0 then ((readR r0).rep, 0) else (zeroR, (readR r0).err) by rw [hr0]; rfl)
  have HFT := Lib.hid (readR_fits r0)
  have HV2 := Lib.hid hV2
  clear hb hx0 hx1 hV2 hr0 hs
  obtain ⟨k0, r1, e0⟩ : ∃ k r, rInt r0 = (k, r) := ⟨_, _, rfl⟩
  obtain ⟨k1, r2, e1⟩ : ∃ k r, rInt r1 = (k, r) := ⟨_, _, rfl⟩
  obtain ⟨k2, r3, e2⟩ : ∃ k r, rInt r2 = (k, r) := ⟨_, _, rfl⟩
  obtain ⟨k3, r4, e3⟩ : ∃ k r, rInt r3 = (k, r) := ⟨_, _, rfl⟩
  obtain ⟨tx, r5, e4⟩ : ∃ k r, rText r4 = (k, r) := ⟨_, _, rfl⟩
  obtain ⟨ts, r6, e5⟩ : ∃ k r, rTexts 4096 r5 = (k, r) := ⟨_, _, rfl⟩
  obtain ⟨zs, rz, e6⟩ : ∃ k r, rTexts 4096 r6 = (k, r) := ⟨_, _, rfl⟩
  have hzl : zs.length ≤ 65536 := by have := rTexts_len 4096 r6; rwa [e6] at this
  have HRC := Lib.hid (show readR r0 = ⟨k0, k1, k2, k3, tx, ts, zs, rz⟩ by
    unfold readR
    rw [e0]
    dsimp only
    rw [e1]
    dsimp only
    rw [e2]
    dsimp only
    rw [e3]
    dsimp only
    rw [e4]
    dsimp only
    rw [e5]
    dsimp only
    rw [e6])
  rw [HRC.out] at HG HFT
  unfold Q7.err Q7.rep at HG
  unfold Q7.rep at HFT
  dsimp only at HG HFT
  obtain ⟨stx, h4⟩ : ∃ x, x = mkS tx := ⟨_, rfl⟩
  rw [← h4] at HG HFT
  have HI0 := Lib.hid (fun (w : World) (h : At 85 w (W.heap.size + 1) r0) => (show Calls Try.prog 44 #[.pointer (some ⟨W.heap.size + 1, 0, none⟩)] w (Gives 85 w (W.heap.size + 1) (.int .i64 k0) r1) by have := Oct.ref_int _ _ _ h; rw [e0] at this; exact this))
  have HI1 := Lib.hid (fun (w : World) (h : At 85 w (W.heap.size + 1) r1) => (show Calls Try.prog 44 #[.pointer (some ⟨W.heap.size + 1, 0, none⟩)] w (Gives 85 w (W.heap.size + 1) (.int .i64 k1) r2) by have := Oct.ref_int _ _ _ h; rw [e1] at this; exact this))
  have HI2 := Lib.hid (fun (w : World) (h : At 85 w (W.heap.size + 1) r2) => (show Calls Try.prog 44 #[.pointer (some ⟨W.heap.size + 1, 0, none⟩)] w (Gives 85 w (W.heap.size + 1) (.int .i64 k2) r3) by have := Oct.ref_int _ _ _ h; rw [e2] at this; exact this))
  have HI3 := Lib.hid (fun (w : World) (h : At 85 w (W.heap.size + 1) r3) => (show Calls Try.prog 44 #[.pointer (some ⟨W.heap.size + 1, 0, none⟩)] w (Gives 85 w (W.heap.size + 1) (.int .i64 k3) r4) by have := Oct.ref_int _ _ _ h; rw [e3] at this; exact this))
  have HI4 := Lib.hid (fun (w : World) (h : At 85 w (W.heap.size + 1) r4) => (show Calls Try.prog 45 #[.pointer (some ⟨W.heap.size + 1, 0, none⟩)] w (Gives 85 w (W.heap.size + 1) (.string stx) r5) by have := Oct.ref_text _ _ _ h; rw [e4] at this; rw [h4]; exact this))
  have HI5 := Lib.hid (fun (w : World) (h : At 85 w (W.heap.size + 1) r5) => (show Calls Try.prog 46 #[.pointer (some ⟨W.heap.size + 1, 0, none⟩), .int .i64 4096] w (Oct.GivesStrs 85 w (W.heap.size + 1) (ts, r6)) by have := Oct.ref_texts _ 4096 _ _ h; rw [e5] at this; exact this))
  have HI6 := Lib.hid (fun (w : World) (h : At 85 w (W.heap.size + 1) r6) => (show Calls Try.prog 46 #[.pointer (some ⟨W.heap.size + 1, 0, none⟩), .int .i64 4096] w (Oct.GivesStrs 85 w (W.heap.size + 1) (zs, rz)) by have := Oct.ref_texts _ 4096 _ _ h; rw [e6] at this; exact this))
  clear e0 e1 e2 e3 e4 e5 e6 h4 HRC
  obtain ⟨i0, hi0, hz0, hz1, hz2⟩ := info_parts fltinfo
  go_enter Try.func23, Try.ntmps23
  go_upto_region 2 with fail
  rw [← HV2.out]
  go_wp2_with fail
  refine (HI0.out _ HR0.out.inn).mono ?_
  rintro e v2 ⟨rfl, ha, hs⟩
  have HR1 := Lib.hid (HR0.out.sep hs ha)
  obtain ⟨U1, hU⟩ : ∃ U, U = v2.alloc (.cells #[.int .i64 k0, .int .i64 0, .int .i64 0, .int .i64 0, .string ⟨#[]⟩, .slice none 0 0, .slice none 0 0] 48) := ⟨_, rfl⟩
  have hbU : Below v2.heap.size v2 U1 := by rw [hU]; exact (Below.refl _ _).alloc (Nat.le_refl _) _
  have hxU : U1.heap[v2.heap.size]? = some (.cells #[.int .i64 k0, .int .i64 0, .int .i64 0, .int .i64 0, .string ⟨#[]⟩, .slice none 0 0, .slice none 0 0] 48 (0, 0)) := by rw [hU]; exact heap_alloc_new _ _
  obtain ⟨g, hg⟩ : ∃ g, g = v2.heap.size := ⟨_, rfl⟩
  rw [← hg] at hxU
  have HGL := Lib.hid (show W.heap.size + 1 < g by have := HR1.out.lt; omega)
  have HS1 := Lib.hid (HR1.out.under hbU)
  have HX1 := Lib.hid hxU
  have HU := Lib.hid hU
  have HGE := Lib.hid hg
  clear ha hs hbU hxU hU hg
  go_upto_region 3 with fail
  rw [← HU.out, ← HGE.out]
  go_wp2_with fail
  refine (HI1.out _ HS1.out.inn).mono ?_
  rintro e v ⟨rfl, ha, hs⟩
  have hx := (hs.block g (Gn.heap_lt HX1.out) (by have := HGL.out; omega)).trans HX1.out
  have hr := HS1.out.sep hs ha
  have hset := Gn.heap_set hx 1 (.int .i64 k1)
  rw [show (#[.int .i64 k0, .int .i64 0, .int .i64 0, .int .i64 0, .string ⟨#[]⟩, .slice none 0 0, .slice none 0 0] : Array Value).setIfInBounds 1 (.int .i64 k1) = #[.int .i64 k0, .int .i64 k1, .int .i64 0, .int .i64 0, .string ⟨#[]⟩, .slice none 0 0, .slice none 0 0] from rfl] at hset
  have gce := cell_of_row _ _ 1 _ _ (0, 0) hx
  have gfr := Gn.frozen_row hx 1
  obtain ⟨U2, hU⟩ : ∃ U, U = v.setCell ⟨g, 1, none⟩ (.int .i64 k1) := ⟨_, rfl⟩
  rw [← hU] at hset
  have hkeep : ∀ r, r ≠ g → U2.heap[r]? = v.heap[r]? := fun r hr => by rw [hU]; exact Gn.set_keep _ _ _ (fun e => hr e.symm)
  have HS2 := Lib.hid (show Rd 85 48 #[.int .i64 0, .int .i64 0, .int .i64 0, .int .i64 0, .string ⟨#[]⟩, .slice none 0 0, .slice none 0 0] W U2 r2 from ⟨by rw [hU]; exact hr.bel.setCell (by have := HGL.out; show W.heap.size ≤ g; omega) _, (hkeep _ (by have := HGL.out; omega)).trans hr.res, hr.inn.block (hkeep _ (by have := HGL.out; omega))⟩)
  have HX2 := Lib.hid hset
  have HU2 := Lib.hid hU
  clear ha hs hx hr hset hU hkeep
  go_upto_region 4 with fail
  rw [← HU2.out]
  clear gce gfr
  go_wp2_with fail
  refine (HI2.out _ HS2.out.inn).mono ?_
  rintro e v ⟨rfl, ha, hs⟩
  have hx := (hs.block g (Gn.heap_lt HX2.out) (by have := HGL.out; omega)).trans HX2.out
  have hr := HS2.out.sep hs ha
  have hset := Gn.heap_set hx 2 (.int .i64 k2)
  rw [show (#[.int .i64 k0, .int .i64 k1, .int .i64 0, .int .i64 0, .string ⟨#[]⟩, .slice none 0 0, .slice none 0 0] : Array Value).setIfInBounds 2 (.int .i64 k2) = #[.int .i64 k0, .int .i64 k1, .int .i64 k2, .int .i64 0, .string ⟨#[]⟩, .slice none 0 0, .slice none 0 0] from rfl] at hset
  have gce := cell_of_row _ _ 2 _ _ (0, 0) hx
  have gfr := Gn.frozen_row hx 2
  obtain ⟨U3, hU⟩ : ∃ U, U = v.setCell ⟨g, 2, none⟩ (.int .i64 k2) := ⟨_, rfl⟩
  rw [← hU] at hset
  have hkeep : ∀ r, r ≠ g → U3.heap[r]? = v.heap[r]? := fun r hr => by rw [hU]; exact Gn.set_keep _ _ _ (fun e => hr e.symm)
  have HS3 := Lib.hid (show Rd 85 48 #[.int .i64 0, .int .i64 0, .int .i64 0, .int .i64 0, .string ⟨#[]⟩, .slice none 0 0, .slice none 0 0] W U3 r3 from ⟨by rw [hU]; exact hr.bel.setCell (by have := HGL.out; show W.heap.size ≤ g; omega) _, (hkeep _ (by have := HGL.out; omega)).trans hr.res, hr.inn.block (hkeep _ (by have := HGL.out; omega))⟩)
  have HX3 := Lib.hid hset
  have HU3 := Lib.hid hU
  clear ha hs hx hr hset hU hkeep
  go_upto_region 5 with fail
  rw [← HU3.out]
  clear gce gfr
  go_wp2_with fail
  refine (HI3.out _ HS3.out.inn).mono ?_
  rintro e v ⟨rfl, ha, hs⟩
  have hx := (hs.block g (Gn.heap_lt HX3.out) (by have := HGL.out; omega)).trans HX3.out
  have hr := HS3.out.sep hs ha
  have hset := Gn.heap_set hx 3 (.int .i64 k3)
  rw [show (#[.int .i64 k0, .int .i64 k1, .int .i64 k2, .int .i64 0, .string ⟨#[]⟩, .slice none 0 0, .slice none 0 0] : Array Value).setIfInBounds 3 (.int .i64 k3) = #[.int .i64 k0, .int .i64 k1, .int .i64 k2, .int .i64 k3, .string ⟨#[]⟩, .slice none 0 0, .slice none 0 0] from rfl] at hset
  have gce := cell_of_row _ _ 3 _ _ (0, 0) hx
  have gfr := Gn.frozen_row hx 3
  obtain ⟨U4, hU⟩ : ∃ U, U = v.setCell ⟨g, 3, none⟩ (.int .i64 k3) := ⟨_, rfl⟩
  rw [← hU] at hset
  have hkeep : ∀ r, r ≠ g → U4.heap[r]? = v.heap[r]? := fun r hr => by rw [hU]; exact Gn.set_keep _ _ _ (fun e => hr e.symm)
  have HS4 := Lib.hid (show Rd 85 48 #[.int .i64 0, .int .i64 0, .int .i64 0, .int .i64 0, .string ⟨#[]⟩, .slice none 0 0, .slice none 0 0] W U4 r4 from ⟨by rw [hU]; exact hr.bel.setCell (by have := HGL.out; show W.heap.size ≤ g; omega) _, (hkeep _ (by have := HGL.out; omega)).trans hr.res, hr.inn.block (hkeep _ (by have := HGL.out; omega))⟩)
  have HX4 := Lib.hid hset
  have HU4 := Lib.hid hU
  clear ha hs hx hr hset hU hkeep
  go_upto_region 6 with fail
  rw [← HU4.out]
  clear gce gfr
  go_wp2_with fail
  refine (HI4.out _ HS4.out.inn).mono ?_
  rintro e v ⟨rfl, ha, hs⟩
  have hx := (hs.block g (Gn.heap_lt HX4.out) (by have := HGL.out; omega)).trans HX4.out
  have hr := HS4.out.sep hs ha
  have hset := Gn.heap_set hx 4 (.string stx)
  rw [show (#[.int .i64 k0, .int .i64 k1, .int .i64 k2, .int .i64 k3, .string ⟨#[]⟩, .slice none 0 0, .slice none 0 0] : Array Value).setIfInBounds 4 (.string stx) = #[.int .i64 k0, .int .i64 k1, .int .i64 k2, .int .i64 k3, .string stx, .slice none 0 0, .slice none 0 0] from rfl] at hset
  have gce := cell_of_row _ _ 4 _ _ (0, 0) hx
  have gfr := Gn.frozen_row hx 4
  obtain ⟨U5, hU⟩ : ∃ U, U = v.setCell ⟨g, 4, none⟩ (.string stx) := ⟨_, rfl⟩
  rw [← hU] at hset
  have hkeep : ∀ r, r ≠ g → U5.heap[r]? = v.heap[r]? := fun r hr => by rw [hU]; exact Gn.set_keep _ _ _ (fun e => hr e.symm)
  have HS5 := Lib.hid (show Rd 85 48 #[.int .i64 0, .int .i64 0, .int .i64 0, .int .i64 0, .string ⟨#[]⟩, .slice none 0 0, .slice none 0 0] W U5 r5 from ⟨by rw [hU]; exact hr.bel.setCell (by have := HGL.out; show W.heap.size ≤ g; omega) _, (hkeep _ (by have := HGL.out; omega)).trans hr.res, hr.inn.block (hkeep _ (by have := HGL.out; omega))⟩)
  have HX5 := Lib.hid hset
  have HU5 := Lib.hid hU
  clear ha hs hx hr hset hU hkeep
  go_upto_region 7 with fail
  rw [← HU5.out]
  clear gce gfr
  go_wp2_with fail
  refine (HI5.out _ HS5.out.inn).mono ?_
  rintro e v ⟨A, cap, rfl, hown, ha, hs⟩
  dsimp only at hown ha
  obtain ⟨n, hn⟩ : ∃ n, n = ts.length := ⟨_, rfl⟩
  dsimp only
  rw [← hn] at hown ⊢
  have hx := (hs.block g (Gn.heap_lt HX5.out) (by have := HGL.out; omega)).trans HX5.out
  have hr := HS5.out.sep hs ha
  have hset := Gn.heap_set hx 5 (.slice A n cap)
  rw [show (#[.int .i64 k0, .int .i64 k1, .int .i64 k2, .int .i64 k3, .string stx, .slice none 0 0, .slice none 0 0] : Array Value).setIfInBounds 5 (.slice A n cap) = #[.int .i64 k0, .int .i64 k1, .int .i64 k2, .int .i64 k3, .string stx, .slice A n cap, .slice none 0 0] from rfl] at hset
  have gce := cell_of_row _ _ 5 _ _ (0, 0) hx
  have gfr := Gn.frozen_row hx 5
  obtain ⟨U6, hU⟩ : ∃ U, U = v.setCell ⟨g, 5, none⟩ (.slice A n cap) := ⟨_, rfl⟩
  rw [← hU] at hset
  have hkeep : ∀ r, r ≠ g → U6.heap[r]? = v.heap[r]? := fun r hr => by rw [hU]; exact Gn.set_keep _ _ _ (fun e => hr e.symm)
  have HOU := Lib.hid (own_far hown hx (by decide) hkeep)
  have HS6 := Lib.hid (show Rd 85 48 #[.int .i64 0, .int .i64 0, .int .i64 0, .int .i64 0, .string ⟨#[]⟩, .slice none 0 0, .slice none 0 0] W U6 r6 from ⟨by rw [hU]; exact hr.bel.setCell (by have := HGL.out; show W.heap.size ≤ g; omega) _, (hkeep _ (by have := HGL.out; omega)).trans hr.res, hr.inn.block (hkeep _ (by have := HGL.out; omega))⟩)
  have HX6 := Lib.hid hset
  have HU6 := Lib.hid hU
  have HN := Lib.hid hn
  clear ha hs hx hr hset hU hkeep hown hn
  go_upto_region 8 with fail
  rw [← HU6.out]
  clear gce gfr
  go_wp2_with fail
  refine (HI6.out _ HS6.out.inn).mono ?_
  rintro e u1 ⟨A2, cap2, rfl, hown, ha, hs⟩
  dsimp only at hown ha
  have HR := Lib.hid (HS6.out.sep hs ha)
  have HX := Lib.hid ((hs.block g (Gn.heap_lt HX6.out) (by have := HGL.out; omega)).trans HX6.out)
  have HO := Lib.hid (Oct.Sep.own hs HOU.out (HS6.out.inn.cells).choose_spec.choose_spec (by decide))
  obtain ⟨m, hm⟩ : ∃ n, n = zs.length := ⟨_, rfl⟩
  dsimp only
  rw [← hm] at hown hzl ⊢
  have HZ := Lib.hid hown
  have HM := Lib.hid hm
  clear hown ha hs hm
  cases rz with
  | error x =>
    obtain ⟨z0, z1, t, t3⟩ := HR.out.inn
    have c1 := cell_of_row u1 _ 1 _ _ (0, 0) t3
    have hx : ((x : Int) != 0) = true := by rw [bne_iff_ne]; omega
    have HGF := Lib.hid (show getR (bs s) = (zeroR, x) by rw [HG.out]; exact if_neg z0)
    clear z0 z1 t3
    have y0 := cell_of_row _ _ 0 _ _ (0, 0) HR.out.res
    have z0 := Gn.frozen_row HR.out.res 0
    have y1 := cell_of_row _ _ 1 _ _ (0, 0) HR.out.res
    have z1 := Gn.frozen_row HR.out.res 1
    have y2 := cell_of_row _ _ 2 _ _ (0, 0) HR.out.res
    have z2 := Gn.frozen_row HR.out.res 2
    have y3 := cell_of_row _ _ 3 _ _ (0, 0) HR.out.res
    have z3 := Gn.frozen_row HR.out.res 3
    have y4 := cell_of_row _ _ 4 _ _ (0, 0) HR.out.res
    have z4 := Gn.frozen_row HR.out.res 4
    have y5 := cell_of_row _ _ 5 _ _ (0, 0) HR.out.res
    have z5 := Gn.frozen_row HR.out.res 5
    have y6 := cell_of_row _ _ 6 _ _ (0, 0) HR.out.res
    have z6 := Gn.frozen_row HR.out.res 6
    have HS7 := Lib.hid (set7 HR.out.res (.int .i64 0) (.int .i64 0) (.int .i64 0) (.int .i64 0) (.string ⟨#[]⟩) (.slice none 0 0) (.slice none 0 0))
    have HB7 := Lib.hid (below7 (Nat.le_refl _) HR.out.bel (.int .i64 0) (.int .i64 0) (.int .i64 0) (.int .i64 0) (.string ⟨#[]⟩) (.slice none 0 0) (.slice none 0 0))
    have HK7 := Lib.hid (fun (r : Nat) (hr : r ≠ W.heap.size) => cell7 (w := u1) hr (.int .i64 0) (.int .i64 0) (.int .i64 0) (.int .i64 0) (.string ⟨#[]⟩) (.slice none 0 0) (.slice none 0 0))
    obtain ⟨X, hX⟩ : ∃ X, X = (((((((u1.setCell ⟨W.heap.size, 0, none⟩ (.int .i64 0)).setCell ⟨W.heap.size, 1, none⟩ (.int .i64 0)).setCell ⟨W.heap.size, 2, none⟩ (.int .i64 0)).setCell ⟨W.heap.size, 3, none⟩ (.int .i64 0)).setCell ⟨W.heap.size, 4, none⟩ (.string ⟨#[]⟩)).setCell ⟨W.heap.size, 5, none⟩ (.slice none 0 0)).setCell ⟨W.heap.size, 6, none⟩ (.slice none 0 0)) := ⟨_, rfl⟩
    have HS11 := Lib.hid (show X.heap[W.heap.size]? = some (.cells #[.int .i64 0, .int .i64 0, .int .i64 0, .int .i64 0, .string ⟨#[]⟩, .slice none 0 0, .slice none 0 0] 48 (0, 0)) by rw [hX]; exact HS7.out)
    have HB11 := Lib.hid (show Below W.heap.size W X by rw [hX]; exact HB7.out)
    have HK11 := Lib.hid (fun (r : Nat) (hr : r ≠ W.heap.size) => show X.heap[r]? = u1.heap[r]? by rw [hX]; exact HK7.out r hr)
    have HXX := Lib.hid hX
    clear hX
    go_upto_region 10 with fail
    refine wp_region_noPanic ?_
    refine wp_region_held_drew (S := fun w => w.cell? ⟨W.heap.size + 1, 1, none⟩ = some (.int .i64 (x : Int))) (by kernel_rfl) ?_ (fun hHeld => ?_)
    · exact c1
    refine wpAnyH_take (i := 0) (v := ?_) rfl (by kernel_rfl) (by kernel_rfl) (by kernel_rfl) (fun _ _ _ h => h) (Or.inl ⟨by rfl, ?_⟩) (by assumption) ?_
    rotate_left
    · intro w hSw
      try dsimp only at hSw
      go_simp
      try with_reducible rfl
    try simp only [Act.put, List.setIfInBounds_toArray, List.set_cons_zero, List.set_cons_succ]
    refine wpAnyH_take (i := 1) (v := ?_) rfl (by kernel_rfl) (by kernel_rfl) (by kernel_rfl) (fun _ _ _ h => h) (Or.inl ⟨by rfl, ?_⟩) (by assumption) ?_
    rotate_left
    · intro w hSw
      try dsimp only at hSw
      go_simp
      try with_reducible rfl
    try simp only [Act.put, List.setIfInBounds_toArray, List.set_cons_zero, List.set_cons_succ]
    refine wpAnyH_take (i := 2) (v := ?_) rfl (by kernel_rfl) (by kernel_rfl) (by kernel_rfl) (fun _ _ _ h => h) (Or.inl ⟨by rfl, ?_⟩) (by assumption) ?_
    rotate_left
    · intro w hSw
      try dsimp only at hSw
      go_simp
      try with_reducible rfl
    try simp only [Act.put, List.setIfInBounds_toArray, List.set_cons_zero, List.set_cons_succ]
    refine wpAnyH_take (i := 3) (v := ?_) rfl (by kernel_rfl) (by kernel_rfl) (by kernel_rfl) (fun _ _ _ h => h) (Or.inl ⟨by rfl, ?_⟩) (by assumption) ?_
    rotate_left
    · intro w hSw
      try dsimp only at hSw
      go_simp
      try with_reducible rfl
    try simp only [Act.put, List.setIfInBounds_toArray, List.set_cons_zero, List.set_cons_succ]
    refine wpAnyH_take (i := 4) (v := ?_) rfl (by kernel_rfl) (by kernel_rfl) (by kernel_rfl) (fun _ _ _ h => h) (Or.inl ⟨by rfl, ?_⟩) (by assumption) ?_
    rotate_left
    · intro w hSw
      try dsimp only at hSw
      go_simp
      try with_reducible rfl
    try simp only [Act.put, List.setIfInBounds_toArray, List.set_cons_zero, List.set_cons_succ]
    refine wpAnyH_ready (rs := [5]) (by kernel_rfl) (by simp) ?_
    refine AllReadyH.cons rfl (fun K hK => ?_) AllReadyH.nil
    go_simp
    rw [← HXX.out]
    refine hK.out _ _ ((Gn.cell_same (HK11.out _ (by omega)) 1).trans c1) (fun hHeld => ?_)
    clear hK K
    try simp only [Act.put, List.setIfInBounds_toArray, List.set_cons_zero, List.set_cons_succ]
    refine wpAnyH_ready (rs := [6]) (by kernel_rfl) (by simp) ?_
    refine AllReadyH.cons rfl (fun K hK => ?_) AllReadyH.nil
    go_simp
    refine hK.out _ _ (hHeld) (fun hHeld => ?_)
    clear hK K
    try simp only [Act.put, List.setIfInBounds_toArray, List.set_cons_zero, List.set_cons_succ]
    refine wpAnyH_done (by kernel_rfl) ?_ _
    refine NoPanic.normal ?_
    go_wp2_with fail
    refine bodyPost_ret (results_ct (P := Try.prog) rfl _ _ W.heap.size 48 _ (0, 0) _ _ rfl rfl HS11.out Try.underlying48 rfl (by kernel_rfl)) rfl ?_
    rw [HGF.out]
    exact ⟨_, rfl, zeroR_at _, Gn.below_drew HB11.out⟩
  | ok l =>
    obtain ⟨t, ht, _, t3⟩ := HR.out.inn
    have c1 := cell_of_row u1 _ 1 _ _ (0, 0) t3
    have HTL := Lib.hid ht
    have w0 := cell_of_row _ _ 0 _ _ (0, 0) HX.out
    obtain ⟨cq, hcq⟩ : ∃ b, b = codeB k0 := ⟨_, rfl⟩
    rw [← hcq] at HG
    unfold codeB at hcq
    have HCQ := Lib.hid hcq
    have HT3 := Lib.hid t3
    clear ht t3 hcq
    by_cases d1 : k0 < 0
    · have hq : cq = false := by rw [HCQ.out, decide_eq_false (show ¬ 0 ≤ k0 by omega)]; rfl
      have HGF := Lib.hid (show getR (bs s) = (zeroR, 2) by rw [HG.out, hq, Bool.and_false]; rfl)
      have y0 := cell_of_row _ _ 0 _ _ (0, 0) HR.out.res
      have z0 := Gn.frozen_row HR.out.res 0
      have y1 := cell_of_row _ _ 1 _ _ (0, 0) HR.out.res
      have z1 := Gn.frozen_row HR.out.res 1
      have y2 := cell_of_row _ _ 2 _ _ (0, 0) HR.out.res
      have z2 := Gn.frozen_row HR.out.res 2
      have y3 := cell_of_row _ _ 3 _ _ (0, 0) HR.out.res
      have z3 := Gn.frozen_row HR.out.res 3
      have y4 := cell_of_row _ _ 4 _ _ (0, 0) HR.out.res
      have z4 := Gn.frozen_row HR.out.res 4
      have y5 := cell_of_row _ _ 5 _ _ (0, 0) HR.out.res
      have z5 := Gn.frozen_row HR.out.res 5
      have y6 := cell_of_row _ _ 6 _ _ (0, 0) HR.out.res
      have z6 := Gn.frozen_row HR.out.res 6
      have HS7 := Lib.hid (set7 HR.out.res (.int .i64 0) (.int .i64 0) (.int .i64 0) (.int .i64 0) (.string ⟨#[]⟩) (.slice none 0 0) (.slice none 0 0))
      have HB7 := Lib.hid (below7 (Nat.le_refl _) HR.out.bel (.int .i64 0) (.int .i64 0) (.int .i64 0) (.int .i64 0) (.string ⟨#[]⟩) (.slice none 0 0) (.slice none 0 0))
      have HK7 := Lib.hid (fun (r : Nat) (hr : r ≠ W.heap.size) => cell7 (w := u1) hr (.int .i64 0) (.int .i64 0) (.int .i64 0) (.int .i64 0) (.string ⟨#[]⟩) (.slice none 0 0) (.slice none 0 0))
      go_wp2_with fail
      refine bodyPost_ret (results_ct (P := Try.prog) rfl _ _ W.heap.size 48 _ (0, 0) _ _ rfl rfl HS7.out Try.underlying48 rfl (by kernel_rfl)) rfl ?_
      rw [HGF.out]
      exact ⟨_, rfl, zeroR_at _, HB7.out⟩
    · have d1' : decide (k0 < 0) = false := decide_eq_false d1
      by_cases d2 : 20 < k0
      · have hq : cq = false := by rw [HCQ.out, decide_eq_false (show ¬ k0 ≤ 20 by omega), Bool.and_false]
        have HGF := Lib.hid (show getR (bs s) = (zeroR, 2) by rw [HG.out, hq, Bool.and_false]; rfl)
        have y0 := cell_of_row _ _ 0 _ _ (0, 0) HR.out.res
        have z0 := Gn.frozen_row HR.out.res 0
        have y1 := cell_of_row _ _ 1 _ _ (0, 0) HR.out.res
        have z1 := Gn.frozen_row HR.out.res 1
        have y2 := cell_of_row _ _ 2 _ _ (0, 0) HR.out.res
        have z2 := Gn.frozen_row HR.out.res 2
        have y3 := cell_of_row _ _ 3 _ _ (0, 0) HR.out.res
        have z3 := Gn.frozen_row HR.out.res 3
        have y4 := cell_of_row _ _ 4 _ _ (0, 0) HR.out.res
        have z4 := Gn.frozen_row HR.out.res 4
        have y5 := cell_of_row _ _ 5 _ _ (0, 0) HR.out.res
        have z5 := Gn.frozen_row HR.out.res 5
        have y6 := cell_of_row _ _ 6 _ _ (0, 0) HR.out.res
        have z6 := Gn.frozen_row HR.out.res 6
        have HS7 := Lib.hid (set7 HR.out.res (.int .i64 0) (.int .i64 0) (.int .i64 0) (.int .i64 0) (.string ⟨#[]⟩) (.slice none 0 0) (.slice none 0 0))
        have HB7 := Lib.hid (below7 (Nat.le_refl _) HR.out.bel (.int .i64 0) (.int .i64 0) (.int .i64 0) (.int .i64 0) (.string ⟨#[]⟩) (.slice none 0 0) (.slice none 0 0))
        have HK7 := Lib.hid (fun (r : Nat) (hr : r ≠ W.heap.size) => cell7 (w := u1) hr (.int .i64 0) (.int .i64 0) (.int .i64 0) (.int .i64 0) (.string ⟨#[]⟩) (.slice none 0 0) (.slice none 0 0))
        go_wp2_with fail
        refine bodyPost_ret (results_ct (P := Try.prog) rfl _ _ W.heap.size 48 _ (0, 0) _ _ rfl rfl HS7.out Try.underlying48 rfl (by kernel_rfl)) rfl ?_
        rw [HGF.out]
        exact ⟨_, rfl, zeroR_at _, HB7.out⟩
      · have d2' : decide (20 < k0) = false := decide_eq_false d2
        have hq : cq = true := by rw [HCQ.out, decide_eq_true (show 0 ≤ k0 by omega), decide_eq_true (show k0 ≤ 20 by omega)]; rfl
        subst hq
        have HT0 := Lib.hid (show ∀ z ∈ zs.take 0, mkB z = true from fun z hz => by simp at hz)
        go_wp2_with fail
        go_loopw [7] (fun i wr => ∃ (k : Nat) (A3 : Option Addr) (c3 : Nat), k ≤ m ∧ i = .int .i64 k ∧ (∀ z ∈ zs.take k, mkB z = true) ∧ Rd 85 48 #[.int .i64 0, .int .i64 0, .int .i64 0, .int .i64 0, .string ⟨#[]⟩, .slice none 0 0, .slice none 0 0] W wr (.ok l) ∧ wr.heap[g]? = some (.cells #[.int .i64 k0, .int .i64 k1, .int .i64 k2, .int .i64 k3, .string stx, .slice A n cap, .slice A3 k c3] 48 (0, 0)) ∧ wr.ownsRow U5.heap.size 9 1 (.slice A n cap) n (ts.map strV) ∧ wr.ownsRow U6.heap.size 9 1 (.slice A2 m cap2) m (zs.map strV) ∧ wr.ownsRow u1.heap.size 89 1 (.slice A3 k c3) k ((mksOf (zs.take k)).map fltV) ∧ u1.heap.size ≤ wr.heap.size) (fun i _ => m - (intOf i).toNat)
        case atStart => exact ⟨0, none, 0, Nat.zero_le _, rfl, HT0.out, HR.out, HX.out, HO.out, HZ.out, by simpa [mksOf] using World.ownsRow_nil _ _ _ _, Nat.le_refl _⟩
        case round =>
          obtain ⟨k, A3, c3, hk, rfl, hall, hrd, hxg, ho, hz, hf, hsz⟩ := hrel
          have HALL := Lib.hid hall
          have HR1 := Lib.hid hrd
          have HX1 := Lib.hid hxg
          have HO1 := Lib.hid ho
          have HZ1 := Lib.hid hz
          have HF1 := Lib.hid hf
          have HSZ := Lib.hid hsz
          clear hall hrd hxg ho hz hf hsz w0 c1
          by_cases hlt : k < m
          · have hlt2 : (k : Int) < (m : Int) := by omega
            have hks : k < zs.length := by rw [← HM.out]; exact hlt
            obtain ⟨b, off, rfl, hbb, hc⟩ := Strs.get (strs_own HZ1.out) k hlt
            rw [List.getElem_map] at hc
            obtain ⟨z, hz⟩ : ∃ z, z = zs[k] := ⟨_, rfl⟩
            rw [← hz] at hc
            have HGT := Lib.hid (rmk_get z)
            obtain ⟨f, hf⟩ : ∃ f, f = (gm z).1 := ⟨_, rfl⟩
            obtain ⟨ec, hec⟩ : ∃ f, f = (gm z).2 := ⟨_, rfl⟩
            rw [← hf, ← hec] at HGT
            obtain ⟨sz, hsz⟩ : ∃ s, s = mkS z := ⟨_, rfl⟩
            rw [← hsz] at HGT hc
            have HZZ := Lib.hid hz
            have HFF := Lib.hid hf
            have HEC := Lib.hid hec
            clear hz hf hec hsz
            go_wp2_with fail
            refine (HGT.out _).mono ?_
            rintro e w2 ⟨rfl, b2⟩
            have HR2 := Lib.hid (HR1.out.under b2)
            have HX2 := Lib.hid ((b2.block _ (Gn.heap_lt HX1.out)).trans HX1.out)
            have HO2 := Lib.hid (own_below HO1.out b2)
            have HZ2 := Lib.hid (own_below HZ1.out b2)
            have HF2 := Lib.hid (own_below HF1.out b2)
            have hsz2 : u1.heap.size ≤ w2.heap.size := Nat.le_trans HSZ.out b2.size
            clear b2 hc
            by_cases he : ec = 0
            · subst he
              have HNN := Lib.hid (show ∀ y ∈ zs.take (k + 1), mkB y = true from fun y hy => by
                rw [List.take_succ_eq_append_getElem hks] at hy
                rcases List.mem_append.1 hy with h1 | h1
                · exact HALL.out y h1
                · rw [List.mem_singleton, ← HZZ.out] at h1
                  rw [h1]
                  exact decide_eq_true HEC.out.symm)
              have HMM := Lib.hid (show (mksOf (zs.take (k + 1))).map fltV = (mksOf (zs.take k)).map fltV ++ [fltV f] by
                unfold mksOf
                rw [List.take_succ_eq_append_getElem hks, List.map_append, List.map_append, ← HZZ.out, HFF.out]
                rfl)
              have x6 := cell_of_row _ _ 6 _ _ (0, 0) HX2.out
              go_wp2_with ((at_builtin; refine wpList_append_own _ rfl _ _ 44 rfl u1.heap.size 89 i0 (.float .f64 0) 1 8 Try.underlying44 hi0 hz0 hz1 hz2 rfl (by decide) _ _ _ rfl (HF2.out.alloc _) ⟨w2.heap.size, 0, none⟩ 1 1 [fltV f] rfl rfl ?c1 ?c2 ?c3 ?c4 ?c5 ?_))
              case c1 => exact cell_one_new _ _ _
              case c2 => simp [Value.oneCell', fltV]
              case c3 => unfold maxLen; omega
              case c4 => omega
              case c5 => simp; omega
              intro v' w4 hown4 hgrow4 _
              obtain ⟨A4, c4, rfl⟩ := Gn.slice_of hown4
              have HG4 := Lib.hid hgrow4
              have HO4 := Lib.hid hown4
              clear hown4 hgrow4 x6
              have hba : Below w2.heap.size w2 (w2.alloc (.cells #[fltV f] 89)) := (Below.refl _ _).alloc (Nat.le_refl _) _
              have hFa := HF2.out.alloc (.cells #[fltV f] 89)
              have hX4 := Oct.grown_keeps HG4.out hFa ((hba.block _ (Gn.heap_lt HX2.out)).trans HX2.out) (by decide)
              have hRs4 := Oct.grown_keeps HG4.out hFa ((hba.block _ (Gn.heap_lt HR2.out.res)).trans HR2.out.res) (by decide)
              have hAt4 := (HR2.out.inn.below hba).grown HG4.out hFa (by decide)
              have hT4 := own_grown (own_below HO2.out hba) HG4.out hFa (by decide)
              have hZ4 := own_grown (own_below HZ2.out hba) HG4.out hFa (by decide)
              have hBl4 := grown_below HG4.out (HR2.out.bel.alloc HR2.out.bel.size (.cells #[fltV f] 89)) (fun k hk => by have := Gn.own_block hFa k hk; have := HR.out.bel.size; omega)
              have hsz4 : u1.heap.size ≤ w4.heap.size := by obtain ⟨_, _, _, h4, _⟩ := HG4.out; exact Nat.le_trans hsz2 (Nat.le_trans hba.size h4)
              have hset := Gn.heap_set hX4 6 (.slice A4 (k + 1) c4)
              rw [show (#[.int .i64 k0, .int .i64 k1, .int .i64 k2, .int .i64 k3, .string stx, .slice A n cap, .slice A3 k c3] : Array Value).setIfInBounds 6 (.slice A4 (k + 1) c4) = #[.int .i64 k0, .int .i64 k1, .int .i64 k2, .int .i64 k3, .string stx, .slice A n cap, .slice A4 (k + 1) c4] from rfl] at hset
              obtain ⟨U9, hU9⟩ : ∃ U, U = w4.setCell ⟨g, 6, none⟩ (.slice A4 (k + 1) c4) := ⟨_, rfl⟩
              rw [← hU9] at hset
              have hkeep : ∀ r, r ≠ g → U9.heap[r]? = w4.heap[r]? := fun r hr => by rw [hU9]; exact Gn.set_keep _ _ _ (fun e => hr e.symm)
              have HA := Lib.hid hset
              have HB := Lib.hid (show Rd 85 48 #[.int .i64 0, .int .i64 0, .int .i64 0, .int .i64 0, .string ⟨#[]⟩, .slice none 0 0, .slice none 0 0] W U9 (.ok l) from ⟨by rw [hU9]; exact hBl4.setCell (by have := HGL.out; show W.heap.size ≤ g; omega) _, (hkeep _ (by have := HGL.out; omega)).trans hRs4, hAt4.block (hkeep _ (by have := HGL.out; omega))⟩)
              have HC := Lib.hid (own_far hT4 hX4 (by decide) hkeep)
              have HD := Lib.hid (own_far hZ4 hX4 (by decide) hkeep)
              have HE := Lib.hid (own_far HO4.out hX4 (by decide) hkeep)
              have HSS := Lib.hid (show u1.heap.size ≤ U9.heap.size by rw [hU9]; simpa [World.setCell] using hsz4)
              have gce := cell_of_row _ _ 6 _ _ (0, 0) hX4
              have gfr := Gn.frozen_row hX4 6
              have HU9 := Lib.hid hU9
              clear hba hFa hX4 hRs4 hAt4 hT4 hZ4 hBl4 hsz4 hset hkeep hU9
              go_wp2
              rw [← HU9.out]
              exact ⟨⟨k + 1, A4, c4, by omega, by go_num, HNN.out, HB.out, HA.out, HC.out, HD.out, by rw [HMM.out]; exact HE.out, HSS.out⟩, by simp [intOf]; omega⟩
            · have hz1' : ((ec : Int) != 0) = true := by rw [bne_iff_ne]; omega
              have hmf : mksB zs = false := by
                rw [Bool.eq_false_iff]
                intro h
                have := List.all_eq_true.1 h zs[k] (List.getElem_mem hks)
                rw [← HZZ.out] at this
                exact he (HEC.out.trans (of_decide_eq_true this))
              have HGF := Lib.hid (show getR (bs s) = (zeroR, 2) by rw [HG.out, hmf]; rfl)
              clear he hmf
              have y0 := cell_of_row _ _ 0 _ _ (0, 0) HR2.out.res
              have z0 := Gn.frozen_row HR2.out.res 0
              have y1 := cell_of_row _ _ 1 _ _ (0, 0) HR2.out.res
              have z1 := Gn.frozen_row HR2.out.res 1
              have y2 := cell_of_row _ _ 2 _ _ (0, 0) HR2.out.res
              have z2 := Gn.frozen_row HR2.out.res 2
              have y3 := cell_of_row _ _ 3 _ _ (0, 0) HR2.out.res
              have z3 := Gn.frozen_row HR2.out.res 3
              have y4 := cell_of_row _ _ 4 _ _ (0, 0) HR2.out.res
              have z4 := Gn.frozen_row HR2.out.res 4
              have y5 := cell_of_row _ _ 5 _ _ (0, 0) HR2.out.res
              have z5 := Gn.frozen_row HR2.out.res 5
              have y6 := cell_of_row _ _ 6 _ _ (0, 0) HR2.out.res
              have z6 := Gn.frozen_row HR2.out.res 6
              have HS7 := Lib.hid (set7 HR2.out.res (.int .i64 0) (.int .i64 0) (.int .i64 0) (.int .i64 0) (.string ⟨#[]⟩) (.slice none 0 0) (.slice none 0 0))
              have HB7 := Lib.hid (below7 (Nat.le_refl _) HR2.out.bel (.int .i64 0) (.int .i64 0) (.int .i64 0) (.int .i64 0) (.string ⟨#[]⟩) (.slice none 0 0) (.slice none 0 0))
              have HK7 := Lib.hid (fun (r : Nat) (hr : r ≠ W.heap.size) => cell7 (w := w2) hr (.int .i64 0) (.int .i64 0) (.int .i64 0) (.int .i64 0) (.string ⟨#[]⟩) (.slice none 0 0) (.slice none 0 0))
              go_wp2_with fail
              refine bodyPost_ret (results_ct (P := Try.prog) rfl _ _ W.heap.size 48 _ (0, 0) _ _ rfl rfl HS7.out Try.underlying48 rfl (by kernel_rfl)) rfl ?_
              rw [HGF.out]
              exact ⟨_, rfl, zeroR_at _, HB7.out⟩
          · have hke : k = m := by omega
            subst hke
            have htk : zs.take k = zs := List.take_of_length_le (by rw [← HM.out]; exact Nat.le_refl _)
            have hmt : mksB zs = true := List.all_eq_true.2 (by have := HALL.out; rwa [htk] at this)
            have HF9 := Lib.hid (show wr.ownsRow u1.heap.size 89 1 (.slice A3 k c3) k ((mksOf zs).map fltV) by have := HF1.out; rwa [htk] at this)
            have HKL := Lib.hid (show k = (mksOf zs).length by unfold mksOf; rw [List.length_map]; exact HM.out)
            obtain ⟨t', ht', _, t3'⟩ := HR1.out.inn
            have c0 := cell_of_row wr _ 0 _ _ (0, 0) t3'
            cases l with
            | nil =>
              have ht1 : t'.toList = [] := by rw [ByteArray.toList_eq]; exact ht'
              have ht2 : t'.toList.isEmpty = true := by rw [ht1]; rfl
              have ht3 : (!t'.toList.isEmpty) = false := by rw [ht2]; rfl
              have HGF := Lib.hid (show getR (bs s) = (⟨k0, k1, k2, k3, stx, ts.map mkS, mksOf zs⟩, 0) by rw [HG.out, hmt]; rfl)
              clear hmt htk ht' t3'
              have y0 := cell_of_row _ _ 0 _ _ (0, 0) HR1.out.res
              have z0 := Gn.frozen_row HR1.out.res 0
              have y1 := cell_of_row _ _ 1 _ _ (0, 0) HR1.out.res
              have z1 := Gn.frozen_row HR1.out.res 1
              have y2 := cell_of_row _ _ 2 _ _ (0, 0) HR1.out.res
              have z2 := Gn.frozen_row HR1.out.res 2
              have y3 := cell_of_row _ _ 3 _ _ (0, 0) HR1.out.res
              have z3 := Gn.frozen_row HR1.out.res 3
              have y4 := cell_of_row _ _ 4 _ _ (0, 0) HR1.out.res
              have z4 := Gn.frozen_row HR1.out.res 4
              have y5 := cell_of_row _ _ 5 _ _ (0, 0) HR1.out.res
              have z5 := Gn.frozen_row HR1.out.res 5
              have y6 := cell_of_row _ _ 6 _ _ (0, 0) HR1.out.res
              have z6 := Gn.frozen_row HR1.out.res 6
              have x0 := cell_of_row _ _ 0 _ _ (0, 0) HX1.out
              have x1 := cell_of_row _ _ 1 _ _ (0, 0) HX1.out
              have x2 := cell_of_row _ _ 2 _ _ (0, 0) HX1.out
              have x3 := cell_of_row _ _ 3 _ _ (0, 0) HX1.out
              have x4 := cell_of_row _ _ 4 _ _ (0, 0) HX1.out
              have x5 := cell_of_row _ _ 5 _ _ (0, 0) HX1.out
              have x6 := cell_of_row _ _ 6 _ _ (0, 0) HX1.out
              have HS7 := Lib.hid (set7 HR1.out.res (.int .i64 k0) (.int .i64 k1) (.int .i64 k2) (.int .i64 k3) (.string stx) (.slice A n cap) (.slice A3 k c3))
              have HB7 := Lib.hid (below7 (Nat.le_refl _) HR1.out.bel (.int .i64 k0) (.int .i64 k1) (.int .i64 k2) (.int .i64 k3) (.string stx) (.slice A n cap) (.slice A3 k c3))
              have HK7 := Lib.hid (fun (r : Nat) (hr : r ≠ W.heap.size) => cell7 (w := wr) hr (.int .i64 k0) (.int .i64 k1) (.int .i64 k2) (.int .i64 k3) (.string stx) (.slice A n cap) (.slice A3 k c3))
              go_wp2_with fail
              refine bodyPost_ret (results_ct (P := Try.prog) rfl _ _ W.heap.size 48 _ (0, 0) _ _ rfl rfl HS7.out Try.underlying48 rfl (by kernel_rfl)) rfl ?_
              rw [HGF.out]
              refine ⟨_, rfl, ⟨A, cap, A3, c3, ?_, ?_, ?_⟩, HB7.out⟩
              · dsimp only; rw [List.length_map, ← HN.out, ← HKL.out]
              · dsimp only; rw [List.length_map, ← HN.out]; exact strs_own (own_far HO1.out HR1.out.res (by decide) HK7.out)
              · dsimp only; rw [← HKL.out]; exact flts_own (own_far HF9.out HR1.out.res (by decide) HK7.out)
            | cons y ys =>
              have ht1 : ¬ t'.toList = [] := by rw [ByteArray.toList_eq]; show ¬ bs t' = []; rw [ht']; simp
              have ht2 : t'.toList.isEmpty = false := by rw [List.isEmpty_eq_false_iff]; exact ht1
              have ht3 : (!t'.toList.isEmpty) = true := by rw [ht2]; rfl
              have HGF := Lib.hid (show getR (bs s) = (zeroR, 4) by rw [HG.out, hmt]; rfl)
              clear hmt htk ht' t3'
              have y0 := cell_of_row _ _ 0 _ _ (0, 0) HR1.out.res
              have z0 := Gn.frozen_row HR1.out.res 0
              have y1 := cell_of_row _ _ 1 _ _ (0, 0) HR1.out.res
              have z1 := Gn.frozen_row HR1.out.res 1
              have y2 := cell_of_row _ _ 2 _ _ (0, 0) HR1.out.res
              have z2 := Gn.frozen_row HR1.out.res 2
              have y3 := cell_of_row _ _ 3 _ _ (0, 0) HR1.out.res
              have z3 := Gn.frozen_row HR1.out.res 3
              have y4 := cell_of_row _ _ 4 _ _ (0, 0) HR1.out.res
              have z4 := Gn.frozen_row HR1.out.res 4
              have y5 := cell_of_row _ _ 5 _ _ (0, 0) HR1.out.res
              have z5 := Gn.frozen_row HR1.out.res 5
              have y6 := cell_of_row _ _ 6 _ _ (0, 0) HR1.out.res
              have z6 := Gn.frozen_row HR1.out.res 6
              have HS7 := Lib.hid (set7 HR1.out.res (.int .i64 0) (.int .i64 0) (.int .i64 0) (.int .i64 0) (.string ⟨#[]⟩) (.slice none 0 0) (.slice none 0 0))
              have HB7 := Lib.hid (below7 (Nat.le_refl _) HR1.out.bel (.int .i64 0) (.int .i64 0) (.int .i64 0) (.int .i64 0) (.string ⟨#[]⟩) (.slice none 0 0) (.slice none 0 0))
              have HK7 := Lib.hid (fun (r : Nat) (hr : r ≠ W.heap.size) => cell7 (w := wr) hr (.int .i64 0) (.int .i64 0) (.int .i64 0) (.int .i64 0) (.string ⟨#[]⟩) (.slice none 0 0) (.slice none 0 0))
              go_wp2_with fail
              refine bodyPost_ret (results_ct (P := Try.prog) rfl _ _ W.heap.size 48 _ (0, 0) _ _ rfl rfl HS7.out Try.underlying48 rfl (by kernel_rfl)) rfl ?_
              rw [HGF.out]
              exact ⟨_, rfl, zeroR_at _, HB7.out⟩
end Go.Proofs.Ytbkfbejbloclgaa.Cm
