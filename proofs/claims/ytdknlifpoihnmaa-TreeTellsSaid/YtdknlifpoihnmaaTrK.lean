/-
  Layer 14: the walk of Text.
-/
import Derived.Test.YtdknlifpoihnmaaTrJ
namespace Go.Proofs.Ytdknlifpoihnmaa.Tr
open Go.RowKit
open Gn (Asks)
open Fx (IntsAt StrsAt Prd PG PrdsAt PgAt PgBox soundB sound_any)
set_option maxRecDepth 100000
set_option linter.unusedSimpArgs false
set_option linter.unusedVariables false

def textE (g : PG) (t : Tr) : ByteArray := if checkB g t = true then ⟨(textT g t).toArray⟩ else ⟨#[]⟩
set_option maxHeartbeats 8000000 in
theorem text_any (g : PG) (hfit : g.Fits) (hf : Fit g) (hw : soundB g = true → Wr g) {t : Tr} (hs : SmT t) (hsz : (textT g t).length ≤ 549755813888) (P Q : Nat → Prop) (W : World) (x y v : Value) (h : TrAt P W t x y) (hg : PgAt Q W g v) :
    Calls Try.prog 15 #[v, .agg #[x, y]] W fun e w' => e = .returned (.string (textE g t)) ∧ Below W.heap.size W w' := by
  have hg1 : PgAt (fun r => r < W.heap.size) W g v := hg.keep (Nat.le_refl _) fun r _ hr => ⟨hr, fun _ => rfl⟩
  have h1 : TrAt (fun r => r < W.heap.size) W t x y := h.keep (Nat.le_refl _) fun r _ hr => ⟨hr, fun _ => rfl⟩
  obtain ⟨n, A, m, cap, rfl, rfl⟩ := h.form
  obtain ⟨An, At_, Ap, cn, ct, cp, rfl, hN, hT, hP⟩ := hg.open_
  have hb1 := (Below.refl W.heap.size W).alloc (Nat.le_refl _) (.cells #[.int .i64 g.start, .int .i64 g.rules, .slice An g.names.length cn, .slice At_ g.terms.length ct, .slice Ap g.prods.length cp] 31)
  have hb2 := hb1.alloc (by simp) (.cells #[.int .i64 n, .slice A m cap] 39)
  have hx1 := (heap_alloc_old _ (.cells #[.int .i64 n, .slice A m cap] 39) (by simp)).trans (heap_alloc_new W (.cells #[.int .i64 g.start, .int .i64 g.rules, .slice An g.names.length cn, .slice At_ g.terms.length ct, .slice Ap g.prods.length cp] 31))
  have hx2 := heap_alloc_new (W.alloc (.cells #[.int .i64 g.start, .int .i64 g.rules, .slice An g.names.length cn, .slice At_ g.terms.length ct, .slice Ap g.prods.length cp] 31)) (.cells #[.int .i64 n, .slice A m cap] 39)
  rw [Gn.size_alloc'] at hx2
  obtain ⟨V, hV⟩ : ∃ V, V = (W.alloc (.cells #[.int .i64 g.start, .int .i64 g.rules, .slice An g.names.length cn, .slice At_ g.terms.length ct, .slice Ap g.prods.length cp] 31)).alloc (.cells #[.int .i64 n, .slice A m cap] 39) := ⟨_, rfl⟩
  have hVz : V.heap.size = W.heap.size + 2 := by rw [hV]; simp
  rw [← hV] at hb2 hx1 hx2
  have HKC := Lib.hid (check_any g hfit hf hs _ _ V _ _ _ (h.under hb2) (hg.under hb2))
  have HG := Lib.hid (fun w (b : Below W.heap.size W w) => hg1.under b)
  have HT := Lib.hid (fun w (b : Below W.heap.size W w) => h1.under b)
  have HX1 := Lib.hid hx1
  have HX2 := Lib.hid hx2
  have HB := Lib.hid hb2
  have HV := Lib.hid hV
  have HVZ := Lib.hid hVz
  have hck : checkB g t = true → soundB g = true ∧ fitsT g t = true := fun h => by unfold checkB at h; rwa [Bool.and_eq_true] at h
  have HWR := Lib.hid (fun (hc : checkB g t = true) => write_any g (hw (hck hc).1) hs (hck hc).2)
  obtain ⟨R, hR⟩ : ∃ R, R = textE g t := ⟨_, rfl⟩
  rw [← hR]
  have HR := Lib.hid (show R = if checkB g t = true then ⟨(textT g t).toArray⟩ else ⟨#[]⟩ from hR)
  clear hR
  generalize checkB g t = cb at HKC HR HWR
  have b0 := cell_of_row _ _ 0 _ _ (0, 0) hx1
  have b1 := cell_of_row _ _ 1 _ _ (0, 0) hx1
  have b2 := cell_of_row _ _ 2 _ _ (0, 0) hx1
  have b3 := cell_of_row _ _ 3 _ _ (0, 0) hx1
  have b4 := cell_of_row _ _ 4 _ _ (0, 0) hx1
  have t0 := cell_of_row _ _ 0 _ _ (0, 0) hx2
  have t1 := cell_of_row _ _ 1 _ _ (0, 0) hx2
  clear hg hg1 h h1 hN hT hP hb1 hb2 hx1 hx2 hV hVz hck
  go_enter Try.func15, Try.ntmps15
  go_upto_region 1 with fail
  rw [← HV.out]
  go_wp2_with fail
  refine HKC.out.mono ?_
  rintro e w1 ⟨rfl, bw1⟩
  have hx1 := (bw1.block _ (Gn.heap_lt HX1.out)).trans HX1.out
  have hx2 := (bw1.block _ (Gn.heap_lt HX2.out)).trans HX2.out
  have HB1 := Lib.hid (HB.out.trans (bw1.mono HB.out.size))
  have hw1z : W.heap.size + 2 ≤ w1.heap.size := by have := bw1.size; have := HVZ.out; omega
  clear b0 b1 b2 b3 b4 t0 t1 bw1
  cases cb
  · have hR2 : R = ⟨#[]⟩ := by rw [HR.out]; rfl
    subst hR2
    go_wp2
    go_ret
    exact ⟨rfl, HB1.out⟩
  · have hR2 : R = ⟨(textT g t).toArray⟩ := by rw [HR.out]; rfl
    subst hR2
    have hbb := (Below.refl w1.heap.size w1).alloc (Nat.le_refl _) (.cells #[.pointer none, .slice none 0 0] 88)
    have hb0 : BAt w1.heap.size w1.heap.size [] (w1.alloc (.cells #[.pointer none, .slice none 0 0] 88)) := Lib.fresh_isBuilder _ _ _
    have hBV := HB1.out.trans (hbb.mono HB1.out.size)
    have HWW := Lib.hid (HWR.out rfl (fun r => r < W.heap.size) (fun r => r < W.heap.size) _ _ _ _ w1.heap.size w1.heap.size [] (HT.out _ hBV) (HG.out _ hBV) hb0 (fun r hr => by omega) (fun r hr => by omega) (by simp; omega))
    have g1 := (hbb.block _ (by omega)).trans hx1
    have g2 := (hbb.block _ (by omega)).trans hx2
    have HBV := Lib.hid hBV
    have c0 := cell_of_row _ _ 0 _ _ (0, 0) g1
    have c1 := cell_of_row _ _ 1 _ _ (0, 0) g1
    have c2 := cell_of_row _ _ 2 _ _ (0, 0) g1
    have c3 := cell_of_row _ _ 3 _ _ (0, 0) g1
    have c4 := cell_of_row _ _ 4 _ _ (0, 0) g1
    have d0 := cell_of_row _ _ 0 _ _ (0, 0) g2
    have d1 := cell_of_row _ _ 1 _ _ (0, 0) g2
    have hsz3 : (w1.alloc (.cells #[.pointer none, .slice none 0 0] 88)).heap.size = w1.heap.size + 1 := by simp
    have HSZ3 := Lib.hid hsz3
    clear hbb hb0 hBV g1 g2 hx1 hx2 hsz3
    go_upto_region 4 with fail
    generalize hV3 : World.alloc w1 _ = V3
    rw [hV3] at HWW HBV c0 c1 c2 c3 c4 d0 d1 HSZ3
    clear hV3
    go_wp2_with fail
    refine HWW.out.mono ?_
    rintro e w4 ⟨rfl, hb4, hk4⟩
    have HST := Lib.hid (bstring_any _ _ _ _ hb4)
    have HB4 := Lib.hid (HBV.out.trans (hk4.1.mono (by omega)))
    clear hb4 hk4
    go_wp2_with fail
    refine HST.out.mono ?_
    rintro e w5 ⟨rfl, b5⟩
    have HB5 := Lib.hid (HB4.out.trans (b5.mono (by omega)))
    clear b5
    go_wp2
    go_ret
    exact ⟨by simp, HB5.out⟩
end Go.Proofs.Ytdknlifpoihnmaa.Tr
