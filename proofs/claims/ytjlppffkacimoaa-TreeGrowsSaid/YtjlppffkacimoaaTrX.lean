/-
  Layer 14: the walk of Replay.
-/
import Derived.Test.YtjlppffkacimoaaTrW
import Derived.Test.YtjlppffkacimoaaTrQ
namespace Go.Proofs.Ytjlppffkacimoaa.Tr
open Go.RowKit Go.Shelf
open Gn (Asks)
open Fx (IntsAt own_of_block own_base Prd PG PgAt PrdsAt StrsAt Made soundB sound_any)
set_option maxRecDepth 100000
set_option linter.unusedSimpArgs false
set_option linter.unusedVariables false

theorem use_no {lo b : Nat} {now : List Int} (hnow : now.length ≤ 1099511627776) {A B : List Int} {va vb : Value} {W : World} (h : SyAt lo b A B va vb W) (hs : Stand A B now) {left : Int} {r : List Int} (hr : r.length ≤ 1099511627776) {vr : Value} (hri : IntsAt (fun k => k < lo) W r vr) (hlo : lo ≤ W.heap.size) {c : Nat} (hc : stepS now left r = .error c) :
    Calls Try.prog 51 #[.pointer (some ⟨b, 0, none⟩), .agg #[.int .i64 left, vr]] W fun e w' => e = .returned (.int .i64 c) ∧ Below lo W w' :=
  (use_any lo b now hnow A B va vb W h hs left r hr vr hri hlo).mono fun e w' hu => by
    rw [hc] at hu
    exact ⟨hu.2, hu.1⟩
theorem use_yes {lo b : Nat} {now : List Int} (hnow : now.length ≤ 1099511627776) {A B : List Int} {va vb : Value} {W : World} (h : SyAt lo b A B va vb W) (hs : Stand A B now) {left : Int} {r : List Int} (hr : r.length ≤ 1099511627776) {vr : Value} (hri : IntsAt (fun k => k < lo) W r vr) (hlo : lo ≤ W.heap.size) {m : List Int} (hc : stepS now left r = .ok m) :
    Calls Try.prog 51 #[.pointer (some ⟨b, 0, none⟩), .agg #[.int .i64 left, vr]] W fun e w' => e = .returned (.int .i64 0) ∧ Below lo W w' ∧ ∃ A B va vb, SyAt lo b A B va vb w' ∧ Stand A B m :=
  (use_any lo b now hnow A B va vb W h hs left r hr vr hri hlo).mono fun e w' hu => by
    rw [hc] at hu
    exact ⟨hu.2.1, hu.1, hu.2.2⟩
theorem stepS_err {now : List Int} {left : Int} {r : List Int} {c : Nat} (h : stepS now left r = .error c) : c = 16 ∨ c = 7 ∨ c = 6 := by
  unfold stepS at h
  split at h
  · injection h with h; exact .inl h.symm
  · split at h
    · injection h with h; exact .inr (.inl h.symm)
    · split at h
      · injection h with h; exact .inr (.inr h.symm)
      · cases h
set_option maxHeartbeats 16000000 in
theorem replay_any (g : PG) (hM : Made g) (s : Int) (l : List Int) (hl : l.length ≤ 1099511627776) (P Q : Nat → Prop) (W : World) (v u : Value) (h : PgAt P W g v) (hu : IntsAt Q W l u) :
    Calls Try.prog 29 #[v, .int .i64 s, u] W fun e w' => Played W.heap.size (replayR g s l) e w' ∧ Below W.heap.size W w' := by
  obtain ⟨An, At_, Ap, cn, ct, cp, rfl, hN, hT, hP⟩ := h.open_
  have hbb : Below W.heap.size W (W.alloc (.cells #[.int .i64 g.start, .int .i64 g.rules, .slice An g.names.length cn, .slice At_ g.terms.length ct, .slice Ap g.prods.length cp] 31)) := (Below.refl _ _).alloc (Nat.le_refl _) _
  have hbx := heap_alloc_new W (.cells #[.int .i64 g.start, .int .i64 g.rules, .slice An g.names.length cn, .slice At_ g.terms.length ct, .slice Ap g.prods.length cp] 31)
  obtain ⟨V, hV⟩ : ∃ V, V = W.alloc (.cells #[.int .i64 g.start, .int .i64 g.rules, .slice An g.names.length cn, .slice At_ g.terms.length ct, .slice Ap g.prods.length cp] 31) := ⟨_, rfl⟩
  have HV := Lib.hid hV
  rw [← hV] at hbb hbx
  have hS := sound_any (g.from_ g.start) (hM.fits g.start) _ V _ (h.under hbb)
  rw [hM.sound g.start, decide_eq_true hM.start] at hS
  have hVz : V.heap.size = W.heap.size + 1 := by rw [hV]; simp
  have hP2 : PrdsAt (fun k => k < W.heap.size) W g.prods (.slice Ap g.prods.length cp) := hP.keep (Nat.le_refl _) fun r _ hr => ⟨hr, fun _ => rfl⟩
  obtain ⟨A, cap, ub, rfl, hcap, hu3, hu4⟩ := hu
  obtain ⟨n, hn⟩ : ∃ n, n = g.names.length := ⟨_, rfl⟩
  obtain ⟨np, hnp⟩ : ∃ np, np = g.prods.length := ⟨_, rfl⟩
  obtain ⟨lt, hlt⟩ : ∃ lt, lt = g.terms.length := ⟨_, rfl⟩
  obtain ⟨st, hst⟩ : ∃ st, st = g.start := ⟨_, rfl⟩
  obtain ⟨ru, hru⟩ : ∃ ru, ru = g.rules := ⟨_, rfl⟩
  obtain ⟨ln, hln⟩ : ∃ ln, ln = l.length := ⟨_, rfl⟩
  have hf1 := hM.few
  rw [← hn, ← hlt, ← hnp] at hf1
  rw [← hn, ← hnp, ← hlt, ← hst, ← hru] at hbx HV hS ⊢
  rw [← hnp] at hP2
  rw [← hln] at hcap hu3 hl ⊢
  obtain ⟨R, hR⟩ : ∃ R, R = replayR g s l := ⟨_, rfl⟩
  rw [← hR]
  have hlt3 : lt ≤ 3 := by omega
  have hnn8 : n ≤ 8 := by omega
  have hneg : IntKind.i64.wrap (-(lt : Int)) = -(lt : Int) := IntWalk.i64_in _ (by omega)
  have HNG := Lib.hid hneg
  have HR := Lib.hid (show R = if s < -(lt : Int) ∨ (n : Int) ≤ s then .error 1 else playR g [s] l by rw [hR, hn, hlt]; rfl)
  have hnp3 : np ≤ 192 := by omega
  have HM := Lib.hid hM
  have HP := Lib.hid hP2
  have HNN := Lib.hid hn
  have HNP := Lib.hid hnp
  have HLT := Lib.hid hlt
  have HLN := Lib.hid hln
  have HU3 := Lib.hid hu3
  have HU4 := Lib.hid hu4
  have HS := Lib.hid hS
  have HVZ := Lib.hid hVz
  have HBX := Lib.hid hbx
  have HBB := Lib.hid hbb
  clear h hN hT hP hP2 hbb hbx hM hn hnp hlt hst hru hf1 hV hS hVz hneg hR hln hu3 hu4
  go_enter Try.func29, Try.ntmps29
  go_upto_region 1 with fail
  rw [← HV.out]
  have b0 := cell_of_row _ _ 0 _ _ (0, 0) HBX.out
  have b1 := cell_of_row _ _ 1 _ _ (0, 0) HBX.out
  have b2 := cell_of_row _ _ 2 _ _ (0, 0) HBX.out
  have b3 := cell_of_row _ _ 3 _ _ (0, 0) HBX.out
  have b4 := cell_of_row _ _ 4 _ _ (0, 0) HBX.out
  go_wp2_with fail
  refine HS.out.mono ?_
  rintro e w1 ⟨rfl, hw1⟩
  have hx1 := (hw1.block _ (Gn.heap_lt HBX.out)).trans HBX.out
  have HX1 := Lib.hid hx1
  have HB1 := Lib.hid (HBB.out.trans (hw1.mono HBB.out.size))
  have HBV := Lib.hid hw1
  have hz1 : W.heap.size < w1.heap.size := Gn.heap_lt hx1
  clear b0 b1 b2 b3 b4 hw1 HS
  have b2 := cell_of_row _ _ 2 _ _ (0, 0) hx1
  have b3 := cell_of_row _ _ 3 _ _ (0, 0) hx1
  clear hx1
  by_cases hs2 : s < -(lt : Int)
  · have hR2 : R = .error 1 := by rw [HR.out, if_pos (.inl hs2)]
    subst hR2
    have hs3 : s < IntKind.i64.wrap (-(lt : Int)) := by rw [HNG.out]; exact hs2
    go_wp2_with fail
    refine bodyPost_ret (results_tmp2 rfl _ _ _) rfl ?_
    exact ⟨rfl, HB1.out⟩
  have hs3 : ¬ s < IntKind.i64.wrap (-(lt : Int)) := by rw [HNG.out]; exact hs2
  by_cases hs1 : (n : Int) ≤ s
  · have hR2 : R = .error 1 := by rw [HR.out, if_pos (.inr hs1)]
    subst hR2
    go_wp2_with fail
    refine bodyPost_ret (results_tmp2 rfl _ _ _) rfl ?_
    exact ⟨rfl, HB1.out⟩
  have hR2 : R = playR g [s] l := by rw [HR.out, if_neg (by omega)]
  have HR2 := Lib.hid hR2
  clear hR2 HR
  obtain ⟨lo, hlo⟩ : ∃ lo, lo = W.heap.size + 1 := ⟨_, rfl⟩
  have hBlo : Below lo V w1 := by
    have := HBV.out
    rwa [HVZ.out, ← hlo] at this
  have hz1' : lo ≤ w1.heap.size := by omega
  have hBW : ∀ w, Below lo V w → Below W.heap.size W w := fun w h => HBB.out.trans ⟨h.os, h.tape, h.output, h.size, fun k hk => h.block k (by omega)⟩
  have hBP : ∀ w, Below lo V w → w.heap[W.heap.size]? = some (.cells #[.int .i64 st, .int .i64 ru, .slice An n cn, .slice At_ lt ct, .slice Ap np cp] 31 (0, 0)) := fun w h => (h.block _ (by omega)).trans HBX.out
  have hsy0 : SyAt lo (w1.heap.size + 1) [] [s] (.slice none 0 0) (.slice (some ⟨w1.heap.size, 0, none⟩) 1 1) ((w1.alloc (.cells #[.int .i64 s] 3)).alloc (.cells #[.slice none 0 0, .slice (some ⟨w1.heap.size, 0, none⟩) 1 1] 110)) := by
    have hn0 := heap_alloc_new (w1.alloc (.cells #[.int .i64 s] 3)) (.cells #[.slice none 0 0, .slice (some ⟨w1.heap.size, 0, none⟩) 1 1] 110)
    refine ⟨by simpa using hn0, World.ownsRow_nil _ _ _ _, ?_, fun k e => (by cases e), fun e => (by cases e), fun e => ?_, by omega⟩
    · refine ⟨rfl, .inr ⟨w1.heap.size, 1, #[.int .i64 s], rfl, hz1', ?_, Nat.le_refl _, by unfold maxLen; omega, rfl, rfl⟩⟩
      exact (heap_alloc_old _ _ (by simp)).trans (heap_alloc_new w1 _)
    · have e : w1.heap.size = w1.heap.size + 1 := by injection e
      omega
  have hb0 : Below lo V ((w1.alloc (.cells #[.int .i64 s] 3)).alloc (.cells #[.slice none 0 0, .slice (some ⟨w1.heap.size, 0, none⟩) 1 1] 110)) := (hBlo.alloc hz1' _).alloc (by simp; omega) _
  have HSY := Lib.hid hsy0
  have HB0 := Lib.hid hb0
  have HBW := Lib.hid hBW
  have HBP := Lib.hid hBP
  have HLO := Lib.hid hlo
  clear hsy0 hb0 hBW hBP hBlo
  go_upto_region 4 with fail
  generalize hV3 : World.alloc _ _ = V3
  rw [hV3] at HSY HB0
  generalize hbb : w1.heap.size + 1 = b
  rw [hbb] at HSY
  clear hV3 b2 b3
  have hlz : lo ≤ V3.heap.size := by
    have := HB0.out.size
    have := HVZ.out
    omega
  go_wp2_with fail
  go_loopw [35] (fun x wr => ∃ (k : Nat) (now A B : List Int) (va vb : Value), k ≤ ln ∧ x = .int .i64 k ∧ SyAt lo b A B va vb wr ∧ Stand A B now ∧ now.length ≤ 65536 ∧ R = playR g now (l.drop k) ∧ Below lo V wr) (fun x _ => ln - (intOf x).toNat)
  case atStart => exact ⟨0, [s], [], [s], _, _, Nat.zero_le _, rfl, HSY.out, ⟨rfl, fun x hx => by cases hx⟩, by simp, by rw [List.drop_zero]; exact HR2.out, HB0.out⟩
  case round =>
    obtain ⟨k, now, A2, B2, va, vb, hk, rfl, hsy, hst, hlen, hRk, hb⟩ := hrel
    have HS2 := Lib.hid hsy
    have HT2 := Lib.hid hst
    have HB := Lib.hid hb
    have HRK := Lib.hid hRk
    have HWB := Lib.hid (HBW.out _ hb)
    have hlw : lo ≤ wr.heap.size := by
      have := hb.size
      have := HVZ.out
      omega
    have c4 := cell_of_row _ _ 4 _ _ (0, 0) (HBP.out _ hb)
    clear hsy hst hRk
    by_cases hlt : k < ln
    rotate_left
    · have hke : ln = k := by omega
      subst hke
      have hlt2 : ¬ ((ln : Nat) : Int) < ((ln : Nat) : Int) := by omega
      have hR3 : R = .ok now := by rw [HRK.out, List.drop_eq_nil_of_le (by rw [← HLN.out]; exact Nat.le_refl _), playR]
      subst hR3
      have hal := Lib.hid (symall_any lo b A2 B2 va vb wr HS2.out (by have e : A2.length + B2.length = now.length := by rw [← HT2.out.all]; simp
                                                                      omega) hlw)
      clear hb c4
      go_wp2_with (go_at_call 52; refine hal.out.mono ?_; rintro e w' ⟨v, rfl, hown, hbl⟩)
      refine bodyPost_ret (results_tmp2 rfl _ _ _) rfl ?_
      refine ⟨⟨v, rfl, ?_⟩, HBW.out _ (HB.out.trans hbl)⟩
      have h9 := HT2.out.all
      refine (IntsAt.of_own (e := 3) (base := lo) (l := now) ?_).keep (Nat.le_refl _) fun r hr _ => ⟨by omega, fun _ => rfl⟩
      rw [← h9, List.length_append, List.length_reverse]
      exact hown
    have hkl : k < l.length := by rw [← HLN.out]; exact hlt
    obtain ⟨rfl, hub, _⟩ := HU3.out (by omega)
    have yx := ((HBW.out _ hb).cell (p := ⟨ub, k, none⟩) hub).trans (HU4.out k hkl)
    have hRs : R = match stepR g now l[k] with
      | .error c => .error c
      | .ok m => playR g m (l.drop (k + 1)) := by rw [HRK.out]; exact play_at g now l k hkl
    obtain ⟨x, hx0⟩ : ∃ x, x = l[k] := ⟨_, rfl⟩
    rw [← hx0] at yx hRs
    have HRS := Lib.hid hRs
    have hlt2 : (k : Int) < (ln : Int) := by omega
    clear hx0 hRs
    by_cases hx1 : x < 0
    · have hR3 : R = .error 10 := by
        have e : stepR g now x = .error 10 := by unfold stepR; rw [if_pos (.inl hx1)]
        rw [HRS.out, e]
      subst hR3
      clear hb
      go_wp2_with fail
      refine bodyPost_ret (results_tmp2 rfl _ _ _) rfl ?_
      exact ⟨rfl, HWB.out⟩
    by_cases hx2 : (np : Int) ≤ x
    · have hR3 : R = .error 10 := by
        have e : stepR g now x = .error 10 := by unfold stepR; rw [if_pos (.inr (by rw [← HNP.out]; exact hx2))]
        rw [HRS.out, e]
      subst hR3
      clear hb
      go_wp2_with fail
      refine bodyPost_ret (results_tmp2 rfl _ _ _) rfl ?_
      exact ⟨rfl, HWB.out⟩
    obtain ⟨y, rfl⟩ : ∃ y : Nat, x = (y : Int) := ⟨x.toNat, by omega⟩
    have hyn : y < np := by omega
    have h1 : y < g.prods.length := by rw [← HNP.out]; exact hyn
    obtain ⟨A', cap', bb, f, e1, _, e3, e4⟩ := HP.out
    injection e1 with e1 e6 e5
    subst e1
    subst e5
    obtain ⟨eA, hr, hrb⟩ := e3 (by omega)
    subst eA
    obtain ⟨x0, x1, xi⟩ := e4 y h1
    have hsh := HM.out.short _ (List.getElem_mem h1)
    obtain ⟨p, hp⟩ : ∃ p, p = g.prods[y] := ⟨_, rfl⟩
    have hsr : stepR g now (y : Int) = stepS now p.left p.right := by rw [hp]; exact stepR_is h1
    rw [← hp] at x0 xi hsh
    have X0 := ((HBW.out _ hb).cell (p := ⟨bb, y * 2, none⟩) hr).trans x0
    have X1 := ((HBW.out _ hb).cell (p := ⟨bb, y * 2 + 1, none⟩) hr).trans x1
    have hxi : IntsAt (fun k => k < lo) wr p.right (f y) := xi.keep (HBW.out _ hb).size fun r hr hr2 => ⟨by omega, fun j => (HBW.out _ hb).cell (p := ⟨r, j, none⟩) hr2⟩
    obtain ⟨Ax, cx, hxs⟩ := hxi.form
    rw [hxs] at X1 hxi
    obtain ⟨m, hm⟩ : ∃ m, m = p.right.length := ⟨_, rfl⟩
    obtain ⟨lf, hlf⟩ : ∃ lf, lf = p.left := ⟨_, rfl⟩
    rw [← hm] at X1 hsh hxi
    rw [← hlf] at X0 hsr
    have HM2 := Lib.hid hm
    have HXI := Lib.hid hxi
    have HSR := Lib.hid hsr
    clear e6 e3 e4 hxs x0 x1 hp hm hlf xi hxi hsr
    rcases hS : stepS now lf p.right with c | now2
    · have hR3 : R = .error c := by rw [HRS.out, HSR.out, hS]
      have hun := Lib.hid (use_no (by omega) HS2.out HT2.out (by rw [← HM2.out]; omega) HXI.out hlw hS)
      have hc := stepS_err hS
      subst hR3
      clear hS hb
      rcases hc with rfl | rfl | rfl
      all_goals
        go_wp2_with (go_at_call 51; refine hun.out.mono ?_; rintro e w' ⟨rfl, hbl⟩)
        refine bodyPost_ret (results_tmp2 rfl _ _ _) rfl ?_
        exact ⟨rfl, HBW.out _ (HB.out.trans hbl)⟩
    · have hR3 := Lib.hid (show R = playR g now2 (l.drop (k + 1)) by rw [HRS.out, HSR.out, hS])
      have hun := Lib.hid (use_yes (by omega) HS2.out HT2.out (by rw [← HM2.out]; omega) HXI.out hlw hS)
      have hl2 := Lib.hid (step_len (g := g) (n := (y : Int)) (by rw [HSR.out]; exact hS))
      clear hS hb
      go_wp2_with (go_at_call 51; refine hun.out.mono ?_; rintro e w' ⟨rfl, hbl, A3, B3, va3, vb3, hsy3, hst3⟩)
      go_roundw
      case rel => exact ⟨k + 1, now2, A3, B3, va3, vb3, by omega, by simp, hsy3, hst3, hl2.out, hR3.out, HB.out.trans hbl⟩
      case measure => simp [intOf]; omega
end Go.Proofs.Ytjlppffkacimoaa.Tr
