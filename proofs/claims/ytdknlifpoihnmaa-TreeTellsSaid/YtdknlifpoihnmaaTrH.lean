/-
  Layer 14: the walk of Get.
-/
import Derived.Test.YtdknlifpoihnmaaTrG
namespace Go.Proofs.Ytdknlifpoihnmaa.Tr
open Go.RowKit
open Gn (Asks Sep)
open Oct (gb bs three get_any)
open Fx (IntsAt StrsAt Prd PG PrdsAt PgAt PgBox soundB sound_any)
set_option maxRecDepth 100000
set_option linter.unusedSimpArgs false
set_option linter.unusedVariables false

theorem results_ct {P : Program} {fn : Func} {p q : Tmp} {ty : TypeId} (h : fn.results = #[.cell p ty, .tmp q]) (tmps : Array Value) (w : World) (g : Nat) (t : TypeId) (cs : Array Value) (fr : Nat × Nat) (d : TypeDesc)
    (hp : tmps.getD p undef = .pointer (some ⟨g, 0, none⟩)) (hg : w.heap[g]? = some (.cells cs t fr)) (hu : P.underlying ty = some d) (hd : (match d with | .struct _ | .array _ _ => true | _ => false) = true) (hi : (P.info? ty).map (·.size) = some cs.size) :
    (results fn tmps).run P w = .ok (.tuple #[.agg cs, tmps.getD q undef]) w := by
  have hp' : tmps[p]?.getD undef = .pointer (some ⟨g, 0, none⟩) := by simpa using hp
  simp [results, h, hp', asAddr, run_loadVar_row w g t ty cs fr d hg hu hd hi]

def getE (g : PG) (s : List UInt8) : Except Nat Tr := if soundB g = true then getT g s else .error 1
set_option maxHeartbeats 8000000 in
theorem get_tree (g : PG) (hfit : g.Fits) (hf : Fit g) (hsd : ∀ n, (sideT g n).length ≤ 1099511627776) (Q : Nat → Prop) (W : World) (v : Value) (u : ByteArray) (hu : u.size ≤ 9223372036854775807) (hg : PgAt Q W g v) :
    Calls Try.prog 27 #[v, .string u] W fun e w' => Got W.heap.size (getE g (bs u)) e w' ∧ Below W.heap.size W w' := by
  have hg1 : PgAt (fun r => r < W.heap.size) W g v := hg.keep (Nat.le_refl _) fun r _ hr => ⟨hr, fun _ => rfl⟩
  obtain ⟨An, At_, Ap, cn, ct, cp, rfl, hN, hT, hP⟩ := hg.open_
  have hb1 := (Below.refl W.heap.size W).alloc (Nat.le_refl _) (.cells #[.int .i64 g.start, .int .i64 g.rules, .slice An g.names.length cn, .slice At_ g.terms.length ct, .slice Ap g.prods.length cp] 31)
  have hb2 := hb1.alloc (by simp) (.cells #[.int .i64 0, .slice none 0 0] 39)
  have hx1 := (heap_alloc_old _ (.cells #[.int .i64 0, .slice none 0 0] 39) (by simp)).trans (heap_alloc_new W (.cells #[.int .i64 g.start, .int .i64 g.rules, .slice An g.names.length cn, .slice At_ g.terms.length ct, .slice Ap g.prods.length cp] 31))
  have hx2 := heap_alloc_new (W.alloc (.cells #[.int .i64 g.start, .int .i64 g.rules, .slice An g.names.length cn, .slice At_ g.terms.length ct, .slice Ap g.prods.length cp] 31)) (.cells #[.int .i64 0, .slice none 0 0] 39)
  rw [Gn.size_alloc'] at hx2
  obtain ⟨V, hV⟩ : ∃ V, V = (W.alloc (.cells #[.int .i64 g.start, .int .i64 g.rules, .slice An g.names.length cn, .slice At_ g.terms.length ct, .slice Ap g.prods.length cp] 31)).alloc (.cells #[.int .i64 0, .slice none 0 0] 39) := ⟨_, rfl⟩
  have hVz : V.heap.size = W.heap.size + 2 := by rw [hV]; simp
  rw [← hV] at hb2 hx1 hx2
  have HKS := Lib.hid (sound_any g hfit _ V _ (hg.under hb2))
  have HG := Lib.hid (fun w (b : Below W.heap.size W w) => hg1.under b)
  have HX1 := Lib.hid hx1
  have HX2 := Lib.hid hx2
  have HB := Lib.hid hb2
  have HV := Lib.hid hV
  have HVZ := Lib.hid hVz
  have b0 := cell_of_row _ _ 0 _ _ (0, 0) hx1
  have b1 := cell_of_row _ _ 1 _ _ (0, 0) hx1
  have b2 := cell_of_row _ _ 2 _ _ (0, 0) hx1
  have b3 := cell_of_row _ _ 3 _ _ (0, 0) hx1
  have b4 := cell_of_row _ _ 4 _ _ (0, 0) hx1
  unfold getE
  obtain ⟨R, hR⟩ : ∃ R : Except Nat Tr, R = if soundB g = true then getT g (bs u) else .error 1 := ⟨_, rfl⟩
  rw [← hR]
  have HR := Lib.hid hR
  clear hR
  generalize soundB g = sb at HKS HR
  clear hg hg1 hN hT hP hb1 hb2 hx1 hx2 hV hVz
  go_enter Try.func27, Try.ntmps27
  go_upto_region 1 with fail
  rw [← HV.out]
  go_wp2_with fail
  refine HKS.out.mono ?_
  rintro e w1 ⟨rfl, bw1⟩
  have hx1 := (bw1.block _ (Gn.heap_lt HX1.out)).trans HX1.out
  have hx2 := (bw1.block _ (Gn.heap_lt HX2.out)).trans HX2.out
  have HX21 := Lib.hid hx2
  have HB1 := Lib.hid (HB.out.trans (bw1.mono HB.out.size))
  have hw1z : W.heap.size + 2 ≤ w1.heap.size := by have := bw1.size; have := HVZ.out; omega
  have HW1Z := Lib.hid hw1z
  have t0 := cell_of_row _ _ 0 _ _ (0, 0) hx2
  have t1 := cell_of_row _ _ 1 _ _ (0, 0) hx2
  have tf0 := frozen_of_row w1 (W.heap.size + 1) 0 _ _ hx2
  have tf1 := frozen_of_row w1 (W.heap.size + 1) 1 _ _ hx2
  have g0 := cell_of_row _ _ 0 _ _ (0, 0) hx1
  have g1 := cell_of_row _ _ 1 _ _ (0, 0) hx1
  have g2 := cell_of_row _ _ 2 _ _ (0, 0) hx1
  have g3 := cell_of_row _ _ 3 _ _ (0, 0) hx1
  have g4 := cell_of_row _ _ 4 _ _ (0, 0) hx1
  clear b0 b1 b2 b3 b4 bw1 hx1
  cases sb
  · have hR2 : R = .error 1 := by rw [HR.out]; rfl
    subst hR2
    have HFIN := Lib.hid (show Below W.heap.size W ((w1.setCell ⟨W.heap.size + 1, 0, none⟩ (.int .i64 0)).setCell ⟨W.heap.size + 1, 1, none⟩ (.slice none 0 0)) from (HB1.out.setCell (by simp) _).setCell (by simp) _)
    have HRS := Lib.hid (res_set hx2 (.int .i64 0) (.slice none 0 0))
    clear hx2
    go_wp2
    refine bodyPost_ret (results_ct rfl _ _ (W.heap.size + 1) 39 _ (0, 0) _ rfl HRS.out Try.underlying39 rfl rfl) rfl ?_
    exact ⟨rfl, HFIN.out⟩
  · clear hx2
    have hbr := (Below.refl w1.heap.size w1).alloc (Nat.le_refl _) (.cells #[.int .i64 g.start, .int .i64 g.rules, .slice An g.names.length cn, .slice At_ g.terms.length ct, .slice Ap g.prods.length cp, .string u, .int .i64 ((0 : Nat) : Int)] 103)
    have hrn := heap_alloc_new w1 (.cells #[.int .i64 g.start, .int .i64 g.rules, .slice An g.names.length cn, .slice At_ g.terms.length ct, .slice Ap g.prods.length cp, .string u, .int .i64 ((0 : Nat) : Int)] 103)
    have HKR := Lib.hid (read_any g hf hsd (fun r => r < W.heap.size) _ w1.heap.size An At_ Ap cn ct cp u hu ⟨hrn, HG.out _ (HB1.out.trans (hbr.mono HB1.out.size)), fun r hr => by omega⟩ (fun r hr => by simp; omega))
    have HBR := Lib.hid hbr
    clear hbr hrn
    rw [show ((0 : Nat) : Int) = 0 from rfl] at HKR HBR
    go_wp2_with fail
    refine HKR.out.mono ?_
    rintro e w2 ⟨hgot, hs2⟩
    have hs1 : Below w1.heap.size w1 w2 := HBR.out.trans (hs2.below (Nat.le_refl _) (by simp))
    have HB2 := Lib.hid (HB1.out.trans (hs1.mono HB1.out.size))
    have hx2 := (hs1.block (W.heap.size + 1) (by omega)).trans HX21.out
    have t0 := cell_of_row _ _ 0 _ _ (0, 0) hx2
    have t1 := cell_of_row _ _ 1 _ _ (0, 0) hx2
    have tf0 := frozen_of_row w2 (W.heap.size + 1) 0 _ _ hx2
    have tf1 := frozen_of_row w2 (W.heap.size + 1) 1 _ _ hx2
    clear hs1 hs2
    have hR3 : R = getT g (bs u) := by rw [HR.out]; rfl
    rw [← hR3] at hgot
    clear hR3 HR HKR
    cases R with
    | error c =>
      have he : e = .returned (.tuple #[.agg #[.int .i64 0, .slice none 0 0], .int .i64 c]) := hgot
      subst he
      clear hgot
      have HFIN := Lib.hid (show Below W.heap.size W ((w2.setCell ⟨W.heap.size + 1, 0, none⟩ (.int .i64 0)).setCell ⟨W.heap.size + 1, 1, none⟩ (.slice none 0 0)) from (HB2.out.setCell (by simp) _).setCell (by simp) _)
      have HRS := Lib.hid (res_set hx2 (.int .i64 0) (.slice none 0 0))
      clear hx2
      go_wp2
      refine bodyPost_ret (results_ct rfl _ _ (W.heap.size + 1) 39 _ (0, 0) _ rfl HRS.out Try.underlying39 rfl rfl) rfl ?_
      exact ⟨rfl, HFIN.out⟩
    | ok t =>
      obtain ⟨x, y, rfl, htr⟩ := hgot
      obtain ⟨kn, kA, km, kc, rfl, rfl⟩ := htr.form
      have HT := Lib.hid (show Got W.heap.size (.ok t) (.returned (.tuple #[.agg #[.int .i64 kn, .slice kA km kc], .int .i64 0])) ((w2.setCell ⟨W.heap.size + 1, 0, none⟩ (.int .i64 kn)).setCell ⟨W.heap.size + 1, 1, none⟩ (.slice kA km kc)) from ⟨_, _, rfl, htr.keep (by simp [World.setCell]) fun r hr _ => ⟨by have := hr; simp at this; omega, fun j => Gn.cell_same ((Gn.set_keep _ 1 _ (by have := hr; simp at this; omega)).trans (Gn.set_keep _ 0 _ (by have := hr; simp at this; omega))) j⟩⟩)
      clear htr
      have HFIN := Lib.hid (show Below W.heap.size W ((w2.setCell ⟨W.heap.size + 1, 0, none⟩ (.int .i64 kn)).setCell ⟨W.heap.size + 1, 1, none⟩ (.slice kA km kc)) from (HB2.out.setCell (by simp) _).setCell (by simp) _)
      have HRS := Lib.hid (res_set hx2 (.int .i64 kn) (.slice kA km kc))
      clear hx2
      go_wp2
      refine bodyPost_ret (results_ct rfl _ _ (W.heap.size + 1) 39 _ (0, 0) _ rfl HRS.out Try.underlying39 rfl rfl) rfl ?_
      exact ⟨HT.out, HFIN.out⟩
end Go.Proofs.Ytdknlifpoihnmaa.Tr
