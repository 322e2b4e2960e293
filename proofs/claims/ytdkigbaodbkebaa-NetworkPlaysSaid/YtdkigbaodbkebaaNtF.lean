/-
  Layer 27: Take.
-/
import Derived.Test.YtdkigbaodbkebaaNtE
namespace Go.Proofs.Ytdkigbaodbkebaa.Nt
open Go.RowKit
set_option maxRecDepth 100000
set_option linter.unusedSimpArgs false
set_option linter.unusedVariables false
/-- All but the one at a place. -/
def remF (fs : List Fr) (p : Nat) : List Fr := fs.take p ++ fs.drop (p + 1)
theorem remF_len {fs : List Fr} {p : Nat} (h : p < fs.length) : (remF fs p).length = fs.length - 1 := by
  unfold remF
  rw [List.length_append, List.length_take, List.length_drop]; omega
theorem remF_nil (p : Nat) : remF [] p = [] := by simp [remF]
theorem frsC_rem (fs : List Fr) (p : Nat) : (frsC fs).take (p * 4) ++ (frsC fs).drop ((p + 1) * 4) = frsC (remF fs p) := by
  unfold remF
  rw [frsC_app, frsC_take, frsC_drop]
section
variable {base b r : Nat} {fs : List Fr} {A : Option Addr} {cap : Nat} {w w' : World}
theorem NSep.setNew (h : NSep base b w w') (hb : base ≤ r) (hr : w.heap.size ≤ r) (i : Nat) (u : Value) : NSep base b w (w'.setCell ⟨r, i, none⟩ u) :=
  ⟨h.os, h.tape, h.output, by simpa [World.setCell] using h.size, fun k hk => (Below.heap_setCell _ _ _ _ (by simp only; omega)).trans (h.low k hk), fun T k cs fr hT hk hh => (Below.heap_setCell _ _ _ _ (by have := Gn.heap_lt hh; simp only; omega)).trans (h.block T k cs fr hT hk hh)⟩
theorem NSep.set4 (h : NSep base b w w') (hb : base ≤ r) (hr : w.heap.size ≤ r) (a c d e : Value) : NSep base b w ((((w'.setCell ⟨r, 0, none⟩ a).setCell ⟨r, 1, none⟩ c).setCell ⟨r, 2, none⟩ d).setCell ⟨r, 3, none⟩ e) :=
  (((h.setNew hb hr 0 a).setNew hb hr 1 c).setNew hb hr 2 d).setNew hb hr 3 e
theorem NetX.setFar (h : NetX base b fs A cap w) (hb : r ≠ b) (hg : ∀ g, (Value.slice A fs.length cap).ownBlock = some g → r ≠ g) (i : Nat) (u : Value) : NetX base b fs A cap (w.setCell ⟨r, i, none⟩ u) := by
  refine ⟨(Gn.set_keep _ _ _ hb).trans h.box, ⟨h.row.1, ?_⟩, h.bb⟩
  rcases h.row.2 with h2 | ⟨g', cp, cur, h1, h2, h3, hrest⟩
  · exact .inl h2
  · refine .inr ⟨g', cp, cur, h1, h2, ?_, hrest⟩
    exact (Gn.set_keep _ _ _ (hg g' (by rw [h1]; rfl))).trans h3
theorem NetX.set4 (h : NetX base b fs A cap w) (hb : r ≠ b) (hg : ∀ g, (Value.slice A fs.length cap).ownBlock = some g → r ≠ g) (a c d e : Value) : NetX base b fs A cap ((((w.setCell ⟨r, 0, none⟩ a).setCell ⟨r, 1, none⟩ c).setCell ⟨r, 2, none⟩ d).setCell ⟨r, 3, none⟩ e) :=
  (((h.setFar hb hg 0 a).setFar hb hg 1 c).setFar hb hg 2 d).setFar hb hg 3 e
end
/-- The row's block. -/
def RowB (w : World) (b k : Nat) : Prop := ∃ n c, w.cell? ⟨b, 0, none⟩ = some (.slice (some ⟨k, 0, none⟩) n c)
theorem keep4 {w : World} {r k : Nat} (h : r ≠ k) (a c d e : Value) : ((((w.setCell ⟨r, 0, none⟩ a).setCell ⟨r, 1, none⟩ c).setCell ⟨r, 2, none⟩ d).setCell ⟨r, 3, none⟩ e).heap[k]? = w.heap[k]? :=
  (Gn.set_keep _ _ _ h).trans ((Gn.set_keep _ _ _ h).trans ((Gn.set_keep _ _ _ h).trans (Gn.set_keep _ _ _ h)))
/-- What Take leaves. -/
def TakeT (base b : Nat) (fs : List Fr) (i : Int) (w : World) (e : Ending) (w' : World) : Prop := e = .returned (.tuple #[AGF (atF fs i), .bool (decide (0 < fs.length))]) ∧ NetAt base b (remF fs (plN i fs.length)) w' ∧ NSep base b w w' ∧ ∀ k, k < w.heap.size → k ≠ b → ¬ RowB w b k → w'.heap[k]? = w.heap[k]?
set_option maxHeartbeats 8000000 in
theorem take_any {base b : Nat} {fs : List Fr} {w : World} (h : NetAt base b fs w) (i : Int) (hn : fs.length ≤ 1024) (hb : base ≤ w.heap.size) :
    Calls Try.prog 8 #[.pointer (some ⟨b, 0, none⟩), .int .i64 i] w (TakeT base b fs i w) := by
  obtain ⟨A, cap, h⟩ := h
  obtain ⟨V, hV⟩ : ∃ V, V = w.alloc (.cells #[.int .i64 0, .int .i64 0, .string ⟨#[]⟩, .bool false] 35) := ⟨_, rfl⟩
  have hbv : Below w.heap.size w V := by rw [hV]; exact (Below.refl _ w).alloc (Nat.le_refl _) _
  obtain ⟨r, hr⟩ : ∃ x, x = w.heap.size := ⟨_, rfl⟩
  have hx : V.heap[r]? = some (.cells #[.int .i64 0, .int .i64 0, .string ⟨#[]⟩, .bool false] 35 (0, 0)) := by rw [hV, hr]; exact heap_alloc_new w _
  have r0 := cell_of_row _ _ 0 _ _ (0, 0) hx
  have r1 := cell_of_row _ _ 1 _ _ (0, 0) hx
  have r2 := cell_of_row _ _ 2 _ _ (0, 0) hx
  have r3 := cell_of_row _ _ 3 _ _ (0, 0) hx
  have q0 := Gn.frozen_row hx 0
  have q1 := Gn.frozen_row hx 1
  have q2 := Gn.frozen_row hx 2
  have q3 := Gn.frozen_row hx 3
  obtain ⟨n, hnn⟩ : ∃ n, n = fs.length := ⟨_, rfl⟩
  obtain ⟨p, hp⟩ : ∃ p, p = plN i n := ⟨_, rfl⟩
  have hv := h.below hbv
  have HP := Lib.hid (place_any hv i hn)
  have HX := Lib.hid hx
  have HV := Lib.hid hV
  have HB := Lib.hid hbv
  have HR := Lib.hid hr
  by_cases h0 : n = 0
  · have hl : fs = [] := List.eq_nil_of_length_eq_zero (by omega)
    subst hl
    unfold plV at HP
    have hfz := fr_zero V
    have hnt := not_run false V
    have HRS := Lib.hid (Nt.set4 hx (.int .i64 0) (.int .i64 0) (.string ⟨#[]⟩) (.bool false))
    have HTT := Lib.hid (show TakeT base b [] i w (.returned (.tuple #[.agg #[.int .i64 0, .int .i64 0, .string ⟨#[]⟩, .bool false], .bool false])) _ from ⟨rfl, by rw [remF_nil]; exact (NetX.set4 (r := r) hv (by have := Gn.heap_lt h.box; omega) (fun g hg => by have := Gn.own_lt h.row g hg; omega) (.int .i64 0) (.int .i64 0) (.string ⟨#[]⟩) (.bool false)).at_, (NSep.of_below hbv hb).set4 (by omega) (Nat.le_of_eq hr.symm) (.int .i64 0) (.int .i64 0) (.string ⟨#[]⟩) (.bool false), fun k hk _ _ => (keep4 (by omega) _ _ _ _).trans (hbv.block k hk)⟩)
    clear hn hnn hp h0 hv hx hV hbv hr h hb
    go_enter Try.func8, Try.ntmps8
    go_upto_region 1 with fail
    rw [← HV.out, ← HR.out]
    go_wp2_with fail
    refine HP.out.mono ?_
    rintro e w' ⟨rfl, rfl⟩
    go_wp2_with fail
    refine bodyPost_ret (results_ct (P := Try.prog) rfl _ _ r 35 _ (0, 0) _ _ rfl rfl HRS.out Try.underlying35 rfl (by kernel_rfl)) rfl ?_
    exact HTT.out
  · have hp0 : p < n := by rw [hp]; exact plN_lt i (by omega)
    have hpl : p < fs.length := by rw [← hnn]; exact hp0
    have hrow := hv.row
    obtain ⟨g, cur, rfl, hg, hbg, hgb, hnc, hcm, hcs, hct, hget⟩ := hv.get p hpl
    obtain ⟨f0, hf0⟩ : ∃ x, x = fs[p].frm := ⟨_, rfl⟩
    obtain ⟨f1, hf1⟩ : ∃ x, x = fs[p].dst := ⟨_, rfl⟩
    obtain ⟨f2, hf2⟩ : ∃ x, x = fs[p].bytes := ⟨_, rfl⟩
    obtain ⟨f3, hf3⟩ : ∃ x, x = fs[p].sp := ⟨_, rfl⟩
    have hat : atF fs i = ⟨f0, f1, f2, f3⟩ := by rw [atF_some (by rw [hp, hnn]) hpl, hf0, hf1, hf2, hf3]
    have e0 : V.cell? ⟨g, p * 4, none⟩ = some (.int .i64 f0) := by rw [cell_of_row _ _ (p * 4) _ _ (0, 0) hg, show p * 4 = p * 4 + 0 from rfl, hget 0 (by omega), hf0]; rfl
    have e1 : V.cell? ⟨g, p * 4 + 1, none⟩ = some (.int .i64 f1) := by rw [cell_of_row _ _ (p * 4 + 1) _ _ (0, 0) hg, hget 1 (by omega), hf1]; rfl
    have e2 : V.cell? ⟨g, p * 4 + 2, none⟩ = some (.string f2) := by rw [cell_of_row _ _ (p * 4 + 2) _ _ (0, 0) hg, hget 2 (by omega), hf2]; rfl
    have e3 : V.cell? ⟨g, p * 4 + 3, none⟩ = some (.bool f3) := by rw [cell_of_row _ _ (p * 4 + 3) _ _ (0, 0) hg, hget 3 (by omega), hf3]; rfl
    have HPE := Lib.hid (show plV i fs.length = .tuple #[.int .i64 p, .bool true] by unfold plV; rw [← hnn, if_neg h0, decide_eq_true (by omega), ← hp])
    rw [HPE.out] at HP
    have hgw : g < w.heap.size := Gn.own_lt h.row g rfl
    have hbw : b < w.heap.size := Gn.heap_lt h.box
    have hnt := not_run true V
    obtain ⟨q, hq⟩ : ∃ x, x = V.heap.size := ⟨_, rfl⟩
    obtain ⟨V2, hV2⟩ : ∃ x, x = V.alloc (.cells #[.int .i64 f0, .int .i64 f1, .string f2, .bool f3] 35) := ⟨_, rfl⟩
    have hq2 : V2.heap[q]? = some (.cells #[.int .i64 f0, .int .i64 f1, .string f2, .bool f3] 35 (0, 0)) := by rw [hV2, hq]; exact heap_alloc_new _ _
    have hb2 : Below V.heap.size V V2 := by rw [hV2]; exact (Below.refl _ _).alloc (Nat.le_refl _) _
    have hv2 := hv.below hb2
    have hrw : r < V.heap.size := Gn.heap_lt hx
    have c0 := cell_of_row _ _ 0 _ _ (0, 0) hv.box
    have d0 := cell_of_row _ _ 0 _ _ (0, 0) hv2.box
    rw [← hnn] at c0 d0
    have HDE := Lib.hid (del_Fr base V2 g cap n p (frsC fs) (by have := hv2.row; rw [← hnn] at this; exact this) (by omega) hp0 (frsC_one fs) (Nat.le_trans hb (Nat.le_trans hbv.size hb2.size)))
    rw [show ((p + 1 : Nat) : Int) = (p : Int) + 1 by omega] at HDE
    have HR2 := Lib.hid ((hb2.block _ (Gn.heap_lt hx)).trans hx)
    have HQ2 := Lib.hid hq2
    have HN2 := Lib.hid hv2
    have HS2 := Lib.hid (NSep.of_below (hbv.trans (hb2.mono hbv.size)) hb (b := b))
    have HBS := Lib.hid (show base ≤ V2.heap.size from Nat.le_trans hb (Nat.le_trans hbv.size hb2.size))
    have HV2 := Lib.hid hV2
    have HQ := Lib.hid hq
    have HNN := Lib.hid hnn
    have HPP := Lib.hid hp
    have HAT := Lib.hid hat
    have HPL := Lib.hid hpl
    have HBB := Lib.hid h.bb
    have HBW := Lib.hid hb
    have HRW := Lib.hid (fun (k : Nat) (h9 : ¬ RowB w b k) => show k ≠ g from fun e => h9 (by subst e; exact ⟨_, _, cell_of_row _ _ 0 _ _ (0, 0) h.box⟩))
    have HK2 := Lib.hid (fun (k : Nat) (hk : k < w.heap.size) => show V2.heap[k]? = w.heap[k]? from (hb2.block k (Nat.lt_of_lt_of_le hk hbv.size)).trans (hbv.block k hk))
    have HSZ2 := Lib.hid (show w.heap.size ≤ V2.heap.size from Nat.le_trans hbv.size hb2.size)
    have hbr : b ≠ r := by omega
    have hbq : b ≠ q := by omega
    have hgr : g ≠ r := by omega
    have hgq : g ≠ q := by omega
    have hrq : r ≠ q := by omega
    have hpc : (p : Int) < (n : Int) := by omega
    have hn9 : n ≤ 1024 := by omega
    clear hnn hp h0 hv hv2 hx hV hV2 hbv hb2 hr h hf0 hf1 hf2 hf3 hat hg hbg hcs hct hget hrow hq hq2 hpl hb hn
    go_enter Try.func8, Try.ntmps8
    go_upto_region 1 with fail
    rw [← HV.out, ← HR.out]
    go_wp2_with fail
    refine HP.out.mono ?_
    rintro e w' ⟨rfl, rfl⟩
    go_upto_region 5 with fail
    rw [← HV2.out, ← HQ.out]
    clear c0 e0 e1 e2 e3 r0 r1 r2 r3 q0 q1 q2 q3 hnt
    go_wp2_with fail
    refine HDE.out.mono ?_
    rintro e w3 ⟨rfl, ho3, hg3⟩
    obtain ⟨m, hm⟩ : ∃ x, x = n - 1 := ⟨_, rfl⟩
    rw [← hm] at ho3 ⊢
    have hs3 := HS2.out.grown (v := .slice (some ⟨g, 0, none⟩) n cap) hg3 (by have := HN2.out.row; rw [← HNN.out] at this; exact this) HBS.out
    have g5 : ∀ k, k < V2.heap.size → k ≠ g → w3.heap[k]? = V2.heap[k]? := fun k hk hne => by
      obtain ⟨_, _, _, _, g5⟩ := hg3
      exact g5 k hk (fun e => by injection e with e; omega)
    have hB3 := (g5 b (Gn.heap_lt HN2.out.box) (Ne.symm hgb)).trans HN2.out.box
    have hR3 := (g5 r (Gn.heap_lt HR2.out) (Ne.symm hgr)).trans HR2.out
    have hQ3 := (g5 q (Gn.heap_lt HQ2.out) (Ne.symm hgq)).trans HQ2.out
    have b0 := cell_of_row _ _ 0 _ _ (0, 0) hB3
    rw [← HNN.out] at b0
    have bz := Gn.frozen_row hB3 0
    have HB3 := Lib.hid hB3
    have HR3 := Lib.hid hR3
    have HQ3 := Lib.hid hQ3
    have HO3 := Lib.hid ho3
    have HS3 := Lib.hid hs3
    have HM := Lib.hid hm
    have HK3 := Lib.hid (fun (k : Nat) (hk : k < w.heap.size) (h9 : k ≠ g) => show w3.heap[k]? = w.heap[k]? from (g5 k (Nat.lt_of_lt_of_le hk HSZ2.out) h9).trans (HK2.out k hk))
    clear ho3 hg3 hs3 hB3 hR3 hQ3 d0 g5 hm
    go_upto_region 6 with fail
    obtain ⟨w5, hw5⟩ : ∃ x, x = w3.setCell ⟨b, 0, none⟩ (.slice (some ⟨g, 0, none⟩) m cap) := ⟨_, rfl⟩
    rw [← hw5]
    have HN5 := Lib.hid (show NetX base b (remF fs p) (some ⟨g, 0, none⟩) cap w5 from by
      have hl : (remF fs p).length = m := by rw [remF_len HPL.out, ← HNN.out, HM.out]
      rw [hw5]
      refine ⟨?_, ?_, HBB.out⟩
      · rw [Gn.heap_set HB3.out 0 (.slice (some ⟨g, 0, none⟩) m cap), hl]
        simp
      · have := own_set HO3.out HB3.out (by decide) 0 (.slice (some ⟨g, 0, none⟩) m cap)
        rw [hl, ← frsC_rem]
        exact this)
    have HS5 := Lib.hid (show NSep base b w w5 from by rw [hw5]; exact HS3.out.setBox HBB.out 0 _)
    have HK5 := Lib.hid (fun (k : Nat) (hk : k < w.heap.size) (h8 : k ≠ b) (h9 : k ≠ g) => show w5.heap[k]? = w.heap[k]? from by rw [hw5]; exact (Gn.set_keep _ _ _ (Ne.symm h8)).trans (HK3.out k hk h9))
    have hR5 : w5.heap[r]? = some (.cells #[.int .i64 0, .int .i64 0, .string ⟨#[]⟩, .bool false] 35 (0, 0)) := by rw [hw5]; exact (Gn.set_keep _ _ _ hbr).trans HR3.out
    have hQ5 : w5.heap[q]? = some (.cells #[.int .i64 f0, .int .i64 f1, .string f2, .bool f3] 35 (0, 0)) := by rw [hw5]; exact (Gn.set_keep _ _ _ hbq).trans HQ3.out
    have r0 := cell_of_row _ _ 0 _ _ (0, 0) hR5
    have r1 := cell_of_row _ _ 1 _ _ (0, 0) hR5
    have r2 := cell_of_row _ _ 2 _ _ (0, 0) hR5
    have r3 := cell_of_row _ _ 3 _ _ (0, 0) hR5
    have q0 := Gn.frozen_row hR5 0
    have q1 := Gn.frozen_row hR5 1
    have q2 := Gn.frozen_row hR5 2
    have q3 := Gn.frozen_row hR5 3
    have s0 := cell_of_row _ _ 0 _ _ (0, 0) hQ5
    have s1 := cell_of_row _ _ 1 _ _ (0, 0) hQ5
    have s2 := cell_of_row _ _ 2 _ _ (0, 0) hQ5
    have s3 := cell_of_row _ _ 3 _ _ (0, 0) hQ5
    have HRS := Lib.hid (Nt.set4 hR5 (.int .i64 f0) (.int .i64 f1) (.string f2) (.bool f3))
    have HTT := Lib.hid (show TakeT base b fs i w (.returned (.tuple #[.agg #[.int .i64 f0, .int .i64 f1, .string f2, .bool f3], .bool true])) _ from ⟨by rw [HAT.out, decide_eq_true (by have := HPL.out; omega)]; rfl, by rw [← HNN.out, ← HPP.out]; exact (NetX.set4 (r := r) HN5.out (Ne.symm hbr) (fun g' hg' => by injection hg' with hg'; have hg9 : g = g' := hg'; omega) (.int .i64 f0) (.int .i64 f1) (.string f2) (.bool f3)).at_, HS5.out.set4 (by have := HR.out; have := HBW.out; omega) (Nat.le_of_eq HR.out.symm) (.int .i64 f0) (.int .i64 f1) (.string f2) (.bool f3), fun k hk h8 h9 => (keep4 (by have := HR.out; omega) _ _ _ _).trans (HK5.out k hk h8 (HRW.out k h9))⟩)
    clear hw5 hR5 hQ5 b0 bz
    go_wp2_with fail
    refine bodyPost_ret (results_ct (P := Try.prog) rfl _ _ r 35 _ (0, 0) _ _ rfl rfl HRS.out Try.underlying35 rfl (by kernel_rfl)) rfl ?_
    exact HTT.out
end Go.Proofs.Ytdkigbaodbkebaa.Nt
