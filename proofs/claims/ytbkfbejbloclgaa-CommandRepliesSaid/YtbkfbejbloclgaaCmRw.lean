/-
  Layer 21: the walk of CommandReplies.
-/
import Derived.Test.YtbkfbejbloclgaaCmAr
import Derived.Test.YtbkfbejbloclgaaCmR6
import Derived.Test.YtbkfbejbloclgaaLooseD
namespace Go.Proofs.Ytbkfbejbloclgaa.Cm
open Go.RowKit
open Oct (pb bs Strs rInt rText rTexts rErr rEnd At Sep Gives strV OutSt OSep app eInt eText eTexts eLen rng)
open Lx (goodB)
open Gn (Asks)
open Mk (gm canon)
set_option maxRecDepth 100000
set_option linter.unusedSimpArgs false
set_option linter.unusedVariables false

theorem AnsAt.under {W W' : World} {c : Rep} {v : Value} (h : AnsAt W c v) (b : Below W.heap.size W W') : AnsAt W' c v := by
  obtain ⟨a, cap, a', cap', e, hs, hf⟩ := h
  exact ⟨a, cap, a', cap', e, Strs.under hs b, U64s.under hf b⟩
theorem putr_at (r : Rep) (v : Value) (w : World) (hv : RepAt w r v) (h : SmallR r) : Calls Try.prog 18 #[v] w fun e w' => e = .returned (.string (mkS (putR r))) ∧ Below w.heap.size w w' := by
  obtain ⟨a, cap, b, cap', rfl, hs, hf⟩ := hv
  exact putr_any r.code r.line r.col r.count r.text r.texts r.marks a b _ cap _ cap' w rfl rfl hs hf h.low (by have := h.texts; omega) (by have := h.marks; omega)
theorem rputr_at (r : Rep) (v : Value) (w : World) (hv : RepAt w r v) (h : SmallR r) : Calls Try.prog 19 #[v] w fun e w' => e = .returned (.string (mkS (putR r))) ∧ Below w.heap.size w w' := by
  obtain ⟨a, cap, b, cap', rfl, hs, hf⟩ := hv
  have ht := h.text
  exact rputr_any r.code r.line r.col r.count r.text r.texts r.marks a b _ cap _ cap' w rfl rfl hs hf h.low (by have := h.texts; omega) (by have := h.marks; omega) (by omega)
set_option maxHeartbeats 16000000 in
theorem replies_walk (r q : Rep) (v u : Value) (w : World) (hv : AnsAt w r v) (hu : AnsAt w q u) (hr : ShortR r) (hq : ShortR q) :
    Calls Try.prog 5 #[v, u] w fun e w' => e = .returned (.bool true) ∧ Below w.heap.size w w' := by
  have hsr := small_of hv
  have hsq := small_of hu
  obtain ⟨P, hP⟩ : ∃ P, P = repOf r := ⟨_, rfl⟩
  obtain ⟨Q, hQ⟩ : ∃ P, P = repOf q := ⟨_, rfl⟩
  have HRP := Lib.hid (fun (w' : World) (b : Below w.heap.size w w') => show Calls Try.prog 17 #[v] w' (fun e w2 => ∃ v u, e = .returned (.tuple #[v, u]) ∧ RepAt w2 P v ∧ RepAt w2 P u ∧ Below w'.heap.size w' w2) by rw [hP]; exact replies_any r v w' (hv.under b) hr)
  have HRQ := Lib.hid (fun (w' : World) (b : Below w.heap.size w w') => show Calls Try.prog 17 #[u] w' (fun e w2 => ∃ v u, e = .returned (.tuple #[v, u]) ∧ RepAt w2 Q v ∧ RepAt w2 Q u ∧ Below w'.heap.size w' w2) by rw [hQ]; exact replies_any q u w' (hu.under b) hq)
  rw [← hP] at hsr
  rw [← hQ] at hsq
  clear hP hQ
  obtain ⟨s, hs⟩ : ∃ s, s = mkS (putR P) := ⟨_, rfl⟩
  obtain ⟨t, ht⟩ : ∃ t, t = alikeR P Q := ⟨_, rfl⟩
  have HPUT := Lib.hid (fun (w : World) (v : Value) (h : RepAt w P v) => show Calls Try.prog 18 #[v] w (fun e w' => e = .returned (.string s) ∧ Below w.heap.size w w') by rw [hs]; exact putr_at P v w h hsr)
  have HRPUT := Lib.hid (fun (w : World) (v : Value) (h : RepAt w P v) => show Calls Try.prog 19 #[v] w (fun e w' => e = .returned (.string s) ∧ Below w.heap.size w w') by rw [hs]; exact rputr_at P v w h hsr)
  have HSAB := Lib.hid (fun (w : World) (v u : Value) (hv : RepAt w P v) (hu : RepAt w Q u) => show Calls Try.prog 20 #[v, u] w (Asks t w) by rw [ht]; exact samer_any P Q v u w hv hu hsr.fits hsq.fits)
  have HAAB := Lib.hid (fun (w : World) (v u : Value) (hv : RepAt w P v) (hu : RepAt w Q u) => show Calls Try.prog 21 #[v, u] w (Asks t w) by rw [ht]; exact alike_any P Q v u w hv hu hsr.fits hsq.fits)
  have HSAA := Lib.hid (fun (w : World) (v u : Value) (hv : RepAt w P v) (hu : RepAt w P u) => show Calls Try.prog 20 #[v, u] w (Asks true w) by have := samer_any P P v u w hv hu hsr.fits hsr.fits; rw [alikeR_self] at this; exact this)
  have HSCA := Lib.hid (fun (w : World) (v u : Value) (hv : RepAt w (canR P) v) (hu : RepAt w P u) => show Calls Try.prog 20 #[v, u] w (Asks true w) by have := samer_any (canR P) P v u w hv hu hsr.can hsr.fits; rw [alike_can] at this; exact this)
  have HACA := Lib.hid (fun (w : World) (v u : Value) (hv : RepAt w (canR P) v) (hu : RepAt w P u) => show Calls Try.prog 21 #[v, u] w (Asks true w) by have := alike_any (canR P) P v u w hv hu hsr.can hsr.fits; rw [alike_can] at this; exact this)
  obtain ⟨G, hG⟩ : ∃ G, G = getR (bs s) := ⟨_, rfl⟩
  have hsz : s.size ≤ 9223372036854775807 := by
    rw [hs, mkS_size]
    exact putR_len hsr
  have HGET := Lib.hid (fun (w : World) => show Calls Try.prog 22 #[.string s] w (RepOut w G) by rw [hG]; exact getr_any s hsz w)
  have HGOT := Lib.hid (show (s = ⟨#[]⟩ ∧ G = (zeroR, 3)) ∨ (s ≠ ⟨#[]⟩ ∧ G = if codeB P.code = true then (canR P, 0) else (zeroR, 2)) by
    rcases put_got hsr with h | ⟨h1, h2⟩
    · refine .inl ⟨by rw [hs, h]; rfl, ?_⟩
      rw [hG, hs, h]
      exact getR_nil
    · refine .inr ⟨fun h => h1 ?_, ?_⟩
      · have := congrArg bs (hs.symm.trans h)
        rwa [bs_mkS] at this
      · rw [hG, hs, bs_mkS]
        exact h2)
  clear hs ht hG hsz hsr hsq
  obtain ⟨ra, rca, rb, rcb, rfl, -, -⟩ := hv
  obtain ⟨qa, qca, qb, qcb, rfl, -, -⟩ := hu
  obtain ⟨k0, k1, k2, k3, k4, rt, rm⟩ := r
  obtain ⟨l0, l1, l2, l3, l4, qt, qm⟩ := q
  dsimp only at *
  obtain ⟨n0, hn0⟩ : ∃ n, n = rt.length := ⟨_, rfl⟩
  obtain ⟨m0, hm0⟩ : ∃ n, n = rm.length := ⟨_, rfl⟩
  obtain ⟨n1, hn1⟩ : ∃ n, n = qt.length := ⟨_, rfl⟩
  obtain ⟨m1, hm1⟩ : ∃ n, n = qm.length := ⟨_, rfl⟩
  rw [← hn0, ← hm0] at HRP ⊢
  rw [← hn1, ← hm1] at HRQ ⊢
  clear hn0 hm0 hn1 hm1 hr hq
  obtain ⟨code, line, col, count, tx, tl, ml⟩ := P
  obtain ⟨code2, line2, col2, count2, tx2, tl2, ml2⟩ := Q
  dsimp only at *
  obtain ⟨n, hn⟩ : ∃ n, n = tl.length := ⟨_, rfl⟩
  obtain ⟨m, hm⟩ : ∃ n, n = ml.length := ⟨_, rfl⟩
  obtain ⟨n2, hn2⟩ : ∃ n, n = tl2.length := ⟨_, rfl⟩
  obtain ⟨m2, hm2⟩ : ∃ n, n = ml2.length := ⟨_, rfl⟩
  have HN := Lib.hid hn.symm
  have HM := Lib.hid hm.symm
  have HN2 := Lib.hid hn2.symm
  have HM2 := Lib.hid hm2.symm
  clear hn hm hn2 hm2
  obtain ⟨V0, hV⟩ : ∃ V, V = (w.alloc (.cells #[.int .i64 k0, .int .i64 k1, .int .i64 k2, .int .i64 k3, .string k4, .slice ra n0 rca, .slice rb m0 rcb] 43)).alloc (.cells #[.int .i64 l0, .int .i64 l1, .int .i64 l2, .int .i64 l3, .string l4, .slice qa n1 qca, .slice qb m1 qcb] 43) := ⟨_, rfl⟩
  have hb : Below w.heap.size w V0 := by rw [hV]; exact ((Below.refl _ w).alloc (Nat.le_refl _) _).alloc (by simp) _
  have hx : V0.heap[w.heap.size]? = some (.cells #[.int .i64 k0, .int .i64 k1, .int .i64 k2, .int .i64 k3, .string k4, .slice ra n0 rca, .slice rb m0 rcb] 43 (0, 0)) := by rw [hV]; exact (heap_alloc_old _ _ (by simp)).trans (heap_alloc_new w _)
  have hy : V0.heap[w.heap.size + 1]? = some (.cells #[.int .i64 l0, .int .i64 l1, .int .i64 l2, .int .i64 l3, .string l4, .slice qa n1 qca, .slice qb m1 qcb] 43 (0, 0)) := by
    rw [hV]; have := heap_alloc_new (w.alloc (.cells #[.int .i64 k0, .int .i64 k1, .int .i64 k2, .int .i64 k3, .string k4, .slice ra n0 rca, .slice rb m0 rcb] 43)) (.cells #[.int .i64 l0, .int .i64 l1, .int .i64 l2, .int .i64 l3, .string l4, .slice qa n1 qca, .slice qb m1 qcb] 43); simpa using this
  obtain ⟨rb2, hrb2⟩ : ∃ r, r = w.heap.size + 1 := ⟨_, rfl⟩
  rw [← hrb2] at hy
  have HRR2 := Lib.hid hrb2
  obtain ⟨rb1, hrb⟩ : ∃ r, r = w.heap.size := ⟨_, rfl⟩
  rw [← hrb] at hx
  have HX0 := Lib.hid hx
  have HY0 := Lib.hid hy
  have HB0 := Lib.hid hb
  have HV0 := Lib.hid hV
  have HRR := Lib.hid hrb
  clear hV hb hx hy hrb hrb2
  go_enter Try.func5, Try.ntmps5
  go_upto_region 1 with fail
  rw [← HV0.out, ← HRR2.out, ← HRR.out]
  go_wp2_with fail
  refine (speaks_any _).mono ?_
  rintro e w1 ⟨rfl, b1⟩
  have HB1 := Lib.hid (HB0.out.trans (b1.mono HB0.out.size))
  have HX1 := Lib.hid ((b1.block _ (Gn.heap_lt HX0.out)).trans HX0.out)
  have HY1 := Lib.hid ((b1.block _ (Gn.heap_lt HY0.out)).trans HY0.out)
  clear b1
  have x0 := cell_of_row _ _ 0 _ _ (0, 0) HX1.out
  have x1 := cell_of_row _ _ 1 _ _ (0, 0) HX1.out
  have x2 := cell_of_row _ _ 2 _ _ (0, 0) HX1.out
  have x3 := cell_of_row _ _ 3 _ _ (0, 0) HX1.out
  have x4 := cell_of_row _ _ 4 _ _ (0, 0) HX1.out
  have x5 := cell_of_row _ _ 5 _ _ (0, 0) HX1.out
  have x6 := cell_of_row _ _ 6 _ _ (0, 0) HX1.out
  go_wp2_with fail
  refine (HRP.out _ HB1.out).mono ?_
  rintro e w2 ⟨pv, pu, rfl, hpv, hpu, b2⟩
  clear x0 x1 x2 x3 x4 x5 x6
  have HB2 := Lib.hid (HB1.out.trans (b2.mono HB1.out.size))
  have HY2 := Lib.hid ((b2.block _ (Gn.heap_lt HY1.out)).trans HY1.out)
  have HPV := Lib.hid hpv
  have HPU := Lib.hid hpu
  obtain ⟨a, cap, b, cap2, rfl, -, -⟩ := hpv
  obtain ⟨a3, cap3, b3, cap4, rfl, -, -⟩ := hpu
  clear b2
  dsimp only at *
  rw [HN.out, HM.out] at HPV HPU ⊢
  obtain ⟨V1, hV⟩ : ∃ V, V = (w2.alloc (.cells #[.int .i64 code, .int .i64 line, .int .i64 col, .int .i64 count, .string tx, .slice a n cap, .slice b m cap2] 46)).alloc (.cells #[.int .i64 code, .int .i64 line, .int .i64 col, .int .i64 count, .string tx, .slice a3 n cap3, .slice b3 m cap4] 48) := ⟨_, rfl⟩
  have hb : Below w2.heap.size w2 V1 := by rw [hV]; exact ((Below.refl _ w2).alloc (Nat.le_refl _) _).alloc (by simp) _
  have hx : V1.heap[w2.heap.size]? = some (.cells #[.int .i64 code, .int .i64 line, .int .i64 col, .int .i64 count, .string tx, .slice a n cap, .slice b m cap2] 46 (0, 0)) := by rw [hV]; exact (heap_alloc_old _ _ (by simp)).trans (heap_alloc_new w2 _)
  have hy : V1.heap[w2.heap.size + 1]? = some (.cells #[.int .i64 code, .int .i64 line, .int .i64 col, .int .i64 count, .string tx, .slice a3 n cap3, .slice b3 m cap4] 48 (0, 0)) := by
    rw [hV]; have := heap_alloc_new (w2.alloc (.cells #[.int .i64 code, .int .i64 line, .int .i64 col, .int .i64 count, .string tx, .slice a n cap, .slice b m cap2] 46)) (.cells #[.int .i64 code, .int .i64 line, .int .i64 col, .int .i64 count, .string tx, .slice a3 n cap3, .slice b3 m cap4] 48); simpa using this
  obtain ⟨p2, hq⟩ : ∃ r, r = w2.heap.size + 1 := ⟨_, rfl⟩
  rw [← hq] at hy
  obtain ⟨p1, hp⟩ : ∃ r, r = w2.heap.size := ⟨_, rfl⟩
  rw [← hp] at hx
  have HV1 := Lib.hid hV
  have HW1 := Lib.hid hb
  have HCp1 := Lib.hid hx
  have HCp2 := Lib.hid hy
  have HEp1 := Lib.hid hp
  have HEp2 := Lib.hid hq
  clear hV hb hx hy hp hq
  have HPV1 := Lib.hid (HPV.out.under HW1.out)
  have HPU1 := Lib.hid (HPU.out.under HW1.out)
  have HB3 := Lib.hid (HB2.out.trans (HW1.out.mono HB2.out.size))
  have HY3 := Lib.hid ((HW1.out.block _ (Gn.heap_lt HY2.out)).trans HY2.out)
  go_upto_region 4 with fail
  rw [← HV1.out, ← HEp2.out, ← HEp1.out]
  have y0 := cell_of_row _ _ 0 _ _ (0, 0) HY3.out
  have y1 := cell_of_row _ _ 1 _ _ (0, 0) HY3.out
  have y2 := cell_of_row _ _ 2 _ _ (0, 0) HY3.out
  have y3 := cell_of_row _ _ 3 _ _ (0, 0) HY3.out
  have y4 := cell_of_row _ _ 4 _ _ (0, 0) HY3.out
  have y5 := cell_of_row _ _ 5 _ _ (0, 0) HY3.out
  have y6 := cell_of_row _ _ 6 _ _ (0, 0) HY3.out
  go_wp2_with fail
  refine (HRQ.out _ HB3.out).mono ?_
  rintro e w4 ⟨pv, pu, rfl, hpv, hpu, b4⟩
  clear y0 y1 y2 y3 y4 y5 y6
  have HB4 := Lib.hid (HB3.out.trans (b4.mono HB3.out.size))
  have HD1 := Lib.hid ((b4.block _ (Gn.heap_lt HCp1.out)).trans HCp1.out)
  have HD2 := Lib.hid ((b4.block _ (Gn.heap_lt HCp2.out)).trans HCp2.out)
  have HPV4 := Lib.hid (HPV1.out.under b4)
  have HPU4 := Lib.hid (HPU1.out.under b4)
  have HQV := Lib.hid hpv
  have HQU := Lib.hid hpu
  obtain ⟨a5, cap5, b5, cap6, rfl, -, -⟩ := hpv
  obtain ⟨a7, cap7, b7, cap8, rfl, -, -⟩ := hpu
  clear b4
  dsimp only at *
  rw [HN2.out, HM2.out] at HQV HQU ⊢
  obtain ⟨V2, hV⟩ : ∃ V, V = (w4.alloc (.cells #[.int .i64 code2, .int .i64 line2, .int .i64 col2, .int .i64 count2, .string tx2, .slice a5 n2 cap5, .slice b5 m2 cap6] 46)).alloc (.cells #[.int .i64 code2, .int .i64 line2, .int .i64 col2, .int .i64 count2, .string tx2, .slice a7 n2 cap7, .slice b7 m2 cap8] 48) := ⟨_, rfl⟩
  have hb : Below w4.heap.size w4 V2 := by rw [hV]; exact ((Below.refl _ w4).alloc (Nat.le_refl _) _).alloc (by simp) _
  have hx : V2.heap[w4.heap.size]? = some (.cells #[.int .i64 code2, .int .i64 line2, .int .i64 col2, .int .i64 count2, .string tx2, .slice a5 n2 cap5, .slice b5 m2 cap6] 46 (0, 0)) := by rw [hV]; exact (heap_alloc_old _ _ (by simp)).trans (heap_alloc_new w4 _)
  have hy : V2.heap[w4.heap.size + 1]? = some (.cells #[.int .i64 code2, .int .i64 line2, .int .i64 col2, .int .i64 count2, .string tx2, .slice a7 n2 cap7, .slice b7 m2 cap8] 48 (0, 0)) := by
    rw [hV]; have := heap_alloc_new (w4.alloc (.cells #[.int .i64 code2, .int .i64 line2, .int .i64 col2, .int .i64 count2, .string tx2, .slice a5 n2 cap5, .slice b5 m2 cap6] 46)) (.cells #[.int .i64 code2, .int .i64 line2, .int .i64 col2, .int .i64 count2, .string tx2, .slice a7 n2 cap7, .slice b7 m2 cap8] 48); simpa using this
  obtain ⟨p4, hq⟩ : ∃ r, r = w4.heap.size + 1 := ⟨_, rfl⟩
  rw [← hq] at hy
  obtain ⟨p3, hp⟩ : ∃ r, r = w4.heap.size := ⟨_, rfl⟩
  rw [← hp] at hx
  have HV2 := Lib.hid hV
  have HW2 := Lib.hid hb
  have HCp3 := Lib.hid hx
  have HCp4 := Lib.hid hy
  have HEp3 := Lib.hid hp
  have HEp4 := Lib.hid hq
  clear hV hb hx hy hp hq
  have HB5 := Lib.hid (HB4.out.trans (HW2.out.mono HB4.out.size))
  have HF1 := Lib.hid ((HW2.out.block _ (Gn.heap_lt HD1.out)).trans HD1.out)
  have HF2 := Lib.hid ((HW2.out.block _ (Gn.heap_lt HD2.out)).trans HD2.out)
  have HPV5 := Lib.hid (HPV4.out.under HW2.out)
  have HPU5 := Lib.hid (HPU4.out.under HW2.out)
  have HQV5 := Lib.hid (HQV.out.under HW2.out)
  have HQU5 := Lib.hid (HQU.out.under HW2.out)
  go_upto_region 5 with fail
  rw [← HV2.out, ← HEp4.out, ← HEp3.out]
  clear HV1 HV2 HEp1 HEp2 HEp3 HEp4 HPV HPU HPV1 HPU1 HPV4 HPU4 HQV HQU HD1 HD2 HY0 HY1 HY2 HY3 HX0 HX1 HCp1 HCp2
  have x0 := cell_of_row _ _ 0 _ _ (0, 0) HF1.out
  have x1 := cell_of_row _ _ 1 _ _ (0, 0) HF1.out
  have x2 := cell_of_row _ _ 2 _ _ (0, 0) HF1.out
  have x3 := cell_of_row _ _ 3 _ _ (0, 0) HF1.out
  have x4 := cell_of_row _ _ 4 _ _ (0, 0) HF1.out
  have x5 := cell_of_row _ _ 5 _ _ (0, 0) HF1.out
  have x6 := cell_of_row _ _ 6 _ _ (0, 0) HF1.out
  go_wp2_with fail
  refine (HPUT.out _ _ HPV5.out).mono ?_
  rintro e U ⟨rfl, b6⟩
  clear x0 x1 x2 x3 x4 x5 x6
  have HB6 := Lib.hid (HB5.out.trans (b6.mono HB5.out.size))
  have HG1 := Lib.hid ((b6.block _ (Gn.heap_lt HF1.out)).trans HF1.out)
  have HG2 := Lib.hid ((b6.block _ (Gn.heap_lt HF2.out)).trans HF2.out)
  have HG3 := Lib.hid ((b6.block _ (Gn.heap_lt HCp3.out)).trans HCp3.out)
  have HG4 := Lib.hid ((b6.block _ (Gn.heap_lt HCp4.out)).trans HCp4.out)
  have HA := Lib.hid (HPV5.out.under b6)
  have HV := Lib.hid (HPU5.out.under b6)
  have HB := Lib.hid (HQV5.out.under b6)
  have HW := Lib.hid (HQU5.out.under b6)
  clear b6 HF1 HF2 HCp3 HCp4 HPV5 HPU5 HQV5 HQU5 HB5 HB4 HB3 HB2 HB1 HW1 HW2
  have hss : (s.toList != s.toList) = false := by unfold bne; rw [beq_self_eq_true]; rfl
  have htt : (t != t) = false := by cases t <;> rfl
  go_upto_region 6 with fail
  have HCE := Lib.hid (fun (w' : World) (b9 : Below U.heap.size U w') => show w'.cell? ⟨p1, 0, none⟩ = some (.int .i64 code) ∧ w'.cell? ⟨p1, 1, none⟩ = some (.int .i64 line) ∧ w'.cell? ⟨p1, 2, none⟩ = some (.int .i64 col) ∧ w'.cell? ⟨p1, 3, none⟩ = some (.int .i64 count) ∧ w'.cell? ⟨p1, 4, none⟩ = some (.string tx) ∧ w'.cell? ⟨p1, 5, none⟩ = some (.slice a n cap) ∧ w'.cell? ⟨p1, 6, none⟩ = some (.slice b m cap2) ∧ w'.cell? ⟨p2, 0, none⟩ = some (.int .i64 code) ∧ w'.cell? ⟨p2, 1, none⟩ = some (.int .i64 line) ∧ w'.cell? ⟨p2, 2, none⟩ = some (.int .i64 col) ∧ w'.cell? ⟨p2, 3, none⟩ = some (.int .i64 count) ∧ w'.cell? ⟨p2, 4, none⟩ = some (.string tx) ∧ w'.cell? ⟨p2, 5, none⟩ = some (.slice a3 n cap3) ∧ w'.cell? ⟨p2, 6, none⟩ = some (.slice b3 m cap4) ∧ w'.cell? ⟨p3, 0, none⟩ = some (.int .i64 code2) ∧ w'.cell? ⟨p3, 1, none⟩ = some (.int .i64 line2) ∧ w'.cell? ⟨p3, 2, none⟩ = some (.int .i64 col2) ∧ w'.cell? ⟨p3, 3, none⟩ = some (.int .i64 count2) ∧ w'.cell? ⟨p3, 4, none⟩ = some (.string tx2) ∧ w'.cell? ⟨p3, 5, none⟩ = some (.slice a5 n2 cap5) ∧ w'.cell? ⟨p3, 6, none⟩ = some (.slice b5 m2 cap6) ∧ w'.cell? ⟨p4, 0, none⟩ = some (.int .i64 code2) ∧ w'.cell? ⟨p4, 1, none⟩ = some (.int .i64 line2) ∧ w'.cell? ⟨p4, 2, none⟩ = some (.int .i64 col2) ∧ w'.cell? ⟨p4, 3, none⟩ = some (.int .i64 count2) ∧ w'.cell? ⟨p4, 4, none⟩ = some (.string tx2) ∧ w'.cell? ⟨p4, 5, none⟩ = some (.slice a7 n2 cap7) ∧ w'.cell? ⟨p4, 6, none⟩ = some (.slice b7 m2 cap8) from by
    have hx := (b9.block _ (Gn.heap_lt HG1.out)).trans HG1.out
    have hy := (b9.block _ (Gn.heap_lt HG2.out)).trans HG2.out
    have hz := (b9.block _ (Gn.heap_lt HG3.out)).trans HG3.out
    have hu := (b9.block _ (Gn.heap_lt HG4.out)).trans HG4.out
    exact ⟨cell_of_row _ _ 0 _ _ (0, 0) hx, cell_of_row _ _ 1 _ _ (0, 0) hx, cell_of_row _ _ 2 _ _ (0, 0) hx, cell_of_row _ _ 3 _ _ (0, 0) hx, cell_of_row _ _ 4 _ _ (0, 0) hx, cell_of_row _ _ 5 _ _ (0, 0) hx, cell_of_row _ _ 6 _ _ (0, 0) hx, cell_of_row _ _ 0 _ _ (0, 0) hy, cell_of_row _ _ 1 _ _ (0, 0) hy, cell_of_row _ _ 2 _ _ (0, 0) hy, cell_of_row _ _ 3 _ _ (0, 0) hy, cell_of_row _ _ 4 _ _ (0, 0) hy, cell_of_row _ _ 5 _ _ (0, 0) hy, cell_of_row _ _ 6 _ _ (0, 0) hy, cell_of_row _ _ 0 _ _ (0, 0) hz, cell_of_row _ _ 1 _ _ (0, 0) hz, cell_of_row _ _ 2 _ _ (0, 0) hz, cell_of_row _ _ 3 _ _ (0, 0) hz, cell_of_row _ _ 4 _ _ (0, 0) hz, cell_of_row _ _ 5 _ _ (0, 0) hz, cell_of_row _ _ 6 _ _ (0, 0) hz, cell_of_row _ _ 0 _ _ (0, 0) hu, cell_of_row _ _ 1 _ _ (0, 0) hu, cell_of_row _ _ 2 _ _ (0, 0) hu, cell_of_row _ _ 3 _ _ (0, 0) hu, cell_of_row _ _ 4 _ _ (0, 0) hu, cell_of_row _ _ 5 _ _ (0, 0) hu, cell_of_row _ _ 6 _ _ (0, 0) hu⟩)
  refine LooseD.region_loose (fun w9 => Below U.heap.size U w9) _ _ (by kernel_rfl) (by kernel_rfl)
    (LooseD.waits (D := [[], [], [], [], [], [], [], [], [], [], [], [], [], [], [], [], [], [], []]) (by kernel_rfl))
    (LooseD.stays (ts := [none, none, some (.is (.string s)), none, none, none, none, some (.is (.bool t)), none, none, some (.is (.bool t)), none, none, none, none, none, some (.is (.bool true)), none, none]) (fun w w' h b => h.trans (b.mono h.size)) (.none (.none (.is (.none (.none (.none (.none (.is (.none (.none (.is (.none (.none (.none (.none (.none (.is (.none (.none .nil))))))))))))))))))))
    (Gn.below_drew (Below.refl _ _)) ?_
  refine LooseD.reads (.string s) rfl rfl ?_ ?_
  · intro w9 hw
    clear hw
    go_simp
  try simp only [Act.put, List.setIfInBounds_toArray, List.set_cons_zero, List.set_cons_succ]
  refine LooseD.reads (.agg #[.int .i64 code, .int .i64 line, .int .i64 col, .int .i64 count, .string tx, .slice a3 n cap3, .slice b3 m cap4]) rfl rfl ?_ ?_
  · intro w9 hw
    obtain ⟨-, -, -, -, -, -, -, y0, y1, y2, y3, y4, y5, y6, -, -, -, -, -, -, -, -, -, -, -, -, -, -⟩ := HCE.out w9 hw
    clear hw
    go_simp
  try simp only [Act.put, List.setIfInBounds_toArray, List.set_cons_zero, List.set_cons_succ]
  refine LooseD.gives (.string s) 19 #[.agg #[.int .i64 code, .int .i64 line, .int .i64 col, .int .i64 count, .string tx, .slice a3 n cap3, .slice b3 m cap4]] rfl rfl ?_ (fun w9 hw hH => HRPUT.out w9 _ (HV.out.under hw)) ?_
  · intro w9 hw
    clear hw
    go_simp
  try simp only [Act.put, List.setIfInBounds_toArray, List.set_cons_zero, List.set_cons_succ]
  refine LooseD.reads (.bool false) rfl rfl ?_ ?_
  · intro w9 hw
    clear hw
    go_simp
  try simp only [Act.put, List.setIfInBounds_toArray, List.set_cons_zero, List.set_cons_succ]
  refine LooseD.reads (.bool false) rfl rfl ?_ ?_
  · intro w9 hw
    clear hw
    go_simp
  try simp only [Act.put, List.setIfInBounds_toArray, List.set_cons_zero, List.set_cons_succ]
  refine LooseD.reads (.agg #[.int .i64 code, .int .i64 line, .int .i64 col, .int .i64 count, .string tx, .slice a n cap, .slice b m cap2]) rfl rfl ?_ ?_
  · intro w9 hw
    obtain ⟨x0, x1, x2, x3, x4, x5, x6, -, -, -, -, -, -, -, -, -, -, -, -, -, -, -, -, -, -, -, -, -⟩ := HCE.out w9 hw
    clear hw
    go_simp
  try simp only [Act.put, List.setIfInBounds_toArray, List.set_cons_zero, List.set_cons_succ]
  refine LooseD.reads (.agg #[.int .i64 code2, .int .i64 line2, .int .i64 col2, .int .i64 count2, .string tx2, .slice a5 n2 cap5, .slice b5 m2 cap6]) rfl rfl ?_ ?_
  · intro w9 hw
    obtain ⟨-, -, -, -, -, -, -, -, -, -, -, -, -, -, z0, z1, z2, z3, z4, z5, z6, -, -, -, -, -, -, -⟩ := HCE.out w9 hw
    clear hw
    go_simp
  try simp only [Act.put, List.setIfInBounds_toArray, List.set_cons_zero, List.set_cons_succ]
  refine LooseD.gives (.bool t) 20 #[.agg #[.int .i64 code, .int .i64 line, .int .i64 col, .int .i64 count, .string tx, .slice a n cap, .slice b m cap2], .agg #[.int .i64 code2, .int .i64 line2, .int .i64 col2, .int .i64 count2, .string tx2, .slice a5 n2 cap5, .slice b5 m2 cap6]] rfl rfl ?_ (fun w9 hw hH => HSAB.out w9 _ _ (HA.out.under hw) (HB.out.under hw)) ?_
  · intro w9 hw
    clear hw
    go_simp
  try simp only [Act.put, List.setIfInBounds_toArray, List.set_cons_zero, List.set_cons_succ]
  refine LooseD.reads (.agg #[.int .i64 code, .int .i64 line, .int .i64 col, .int .i64 count, .string tx, .slice a n cap, .slice b m cap2]) rfl rfl ?_ ?_
  · intro w9 hw
    obtain ⟨x0, x1, x2, x3, x4, x5, x6, -, -, -, -, -, -, -, -, -, -, -, -, -, -, -, -, -, -, -, -, -⟩ := HCE.out w9 hw
    clear hw
    go_simp
  try simp only [Act.put, List.setIfInBounds_toArray, List.set_cons_zero, List.set_cons_succ]
  refine LooseD.reads (.agg #[.int .i64 code2, .int .i64 line2, .int .i64 col2, .int .i64 count2, .string tx2, .slice a7 n2 cap7, .slice b7 m2 cap8]) rfl rfl ?_ ?_
  · intro w9 hw
    obtain ⟨-, -, -, -, -, -, -, -, -, -, -, -, -, -, -, -, -, -, -, -, -, u0, u1, u2, u3, u4, u5, u6⟩ := HCE.out w9 hw
    clear hw
    go_simp
  try simp only [Act.put, List.setIfInBounds_toArray, List.set_cons_zero, List.set_cons_succ]
  refine LooseD.gives (.bool t) 21 #[.agg #[.int .i64 code, .int .i64 line, .int .i64 col, .int .i64 count, .string tx, .slice a n cap, .slice b m cap2], .agg #[.int .i64 code2, .int .i64 line2, .int .i64 col2, .int .i64 count2, .string tx2, .slice a7 n2 cap7, .slice b7 m2 cap8]] rfl rfl ?_ (fun w9 hw hH => HAAB.out w9 _ _ (HA.out.under hw) (HW.out.under hw)) ?_
  · intro w9 hw
    clear hw
    go_simp
  try simp only [Act.put, List.setIfInBounds_toArray, List.set_cons_zero, List.set_cons_succ]
  refine LooseD.reads (.bool false) rfl rfl ?_ ?_
  · intro w9 hw
    clear hw
    go_simp
  try simp only [Act.put, List.setIfInBounds_toArray, List.set_cons_zero, List.set_cons_succ]
  refine LooseD.reads (.bool false) rfl rfl ?_ ?_
  · intro w9 hw
    clear hw
    go_simp
  try simp only [Act.put, List.setIfInBounds_toArray, List.set_cons_zero, List.set_cons_succ]
  refine LooseD.reads (.bool false) rfl rfl ?_ ?_
  · intro w9 hw
    clear hw
    go_simp
  try simp only [Act.put, List.setIfInBounds_toArray, List.set_cons_zero, List.set_cons_succ]
  refine LooseD.reads (.agg #[.int .i64 code, .int .i64 line, .int .i64 col, .int .i64 count, .string tx, .slice a n cap, .slice b m cap2]) rfl rfl ?_ ?_
  · intro w9 hw
    obtain ⟨x0, x1, x2, x3, x4, x5, x6, -, -, -, -, -, -, -, -, -, -, -, -, -, -, -, -, -, -, -, -, -⟩ := HCE.out w9 hw
    clear hw
    go_simp
  try simp only [Act.put, List.setIfInBounds_toArray, List.set_cons_zero, List.set_cons_succ]
  refine LooseD.reads (.agg #[.int .i64 code, .int .i64 line, .int .i64 col, .int .i64 count, .string tx, .slice a n cap, .slice b m cap2]) rfl rfl ?_ ?_
  · intro w9 hw
    obtain ⟨x0, x1, x2, x3, x4, x5, x6, -, -, -, -, -, -, -, -, -, -, -, -, -, -, -, -, -, -, -, -, -⟩ := HCE.out w9 hw
    clear hw
    go_simp
  try simp only [Act.put, List.setIfInBounds_toArray, List.set_cons_zero, List.set_cons_succ]
  refine LooseD.gives (.bool true) 20 #[.agg #[.int .i64 code, .int .i64 line, .int .i64 col, .int .i64 count, .string tx, .slice a n cap, .slice b m cap2], .agg #[.int .i64 code, .int .i64 line, .int .i64 col, .int .i64 count, .string tx, .slice a n cap, .slice b m cap2]] rfl rfl ?_ (fun w9 hw hH => HSAA.out w9 _ _ (HA.out.under hw) (HA.out.under hw)) ?_
  · intro w9 hw
    clear hw
    go_simp
  try simp only [Act.put, List.setIfInBounds_toArray, List.set_cons_zero, List.set_cons_succ]
  refine LooseD.reads (.bool false) rfl rfl ?_ ?_
  · intro w9 hw
    clear hw
    go_simp
  try simp only [Act.put, List.setIfInBounds_toArray, List.set_cons_zero, List.set_cons_succ]
  refine LooseD.reads (.bool false) rfl rfl ?_ ?_
  · intro w9 hw
    clear hw
    go_simp
  try simp only [Act.put, List.setIfInBounds_toArray, List.set_cons_zero, List.set_cons_succ]
  refine LooseD.done ?_
  intro w7 hw7 _
  have HB7 := Lib.hid (HB6.out.trans (hw7.mono HB6.out.size))
  have HK1 := Lib.hid ((hw7.block _ (Gn.heap_lt HG1.out)).trans HG1.out)
  have HK2 := Lib.hid ((hw7.block _ (Gn.heap_lt HG2.out)).trans HG2.out)
  have HA7 := Lib.hid (HA.out.under hw7)
  have HV7 := Lib.hid (HV.out.under hw7)
  clear hw7 hss htt HCE
  go_upto_region 8 with fail
  have hgot := HGOT.out
  rcases hgot with ⟨hse, rfl⟩ | ⟨hse, hG⟩
  · have hs1 : s.toList = [] := by rw [hse, ByteArray.toList_eq]
    have hs2 : s.toList.isEmpty = true := by rw [hs1]; rfl
    clear hse
    have HB8 := HB7
    go_wp2_with fail
    refine (HGET.out _).mono ?_
    rintro e w8 ⟨gv, rfl, hg, b8⟩
    obtain ⟨ga, gc, gb, gd, rfl, -, -⟩ := hg
    have HB8 := Lib.hid (HB7.out.trans (b8.mono HB7.out.size))
    dsimp only [zeroR, List.length_nil]
    go_wp2
    go_ret
    exact ⟨rfl, HB8.out.alloc (by have := HB8.out.size; omega) _⟩
  · have hs1 : ¬ s.toList = [] := fun h => hse (by
      have h2 : mkS s.toList = mkS [] := by rw [h]
      rw [ByteArray.toList_eq] at h2
      exact h2)
    have hs2 : s.toList.isEmpty = false := by rw [List.isEmpty_eq_false_iff]; exact hs1
    have hcase : (code < 0 ∨ (¬ code < 0 ∧ 20 < code)) ∨ (¬ code < 0 ∧ ¬ 20 < code) := by omega
    rcases hcase with hcase | ⟨hc0, hc1⟩
    · have hcb : codeB code = false := by unfold codeB; rcases hcase with h | ⟨_, h⟩ <;> simp <;> omega
      rw [hcb, if_neg (by decide)] at hG
      subst hG
      have HB8 := HB7
      go_wp2_with fail
      refine (HGET.out _).mono ?_
      rintro e w8 ⟨gv, rfl, hg, b8⟩
      obtain ⟨ga, gc, gb, gd, rfl, -, -⟩ := hg
      have HB8 := Lib.hid (HB7.out.trans (b8.mono HB7.out.size))
      dsimp only [zeroR, List.length_nil]
      have HK8 := Lib.hid ((b8.block _ (Gn.heap_lt HK2.out)).trans HK2.out)
      have HB9 := Lib.hid (HB8.out.alloc (by have := HB8.out.size; omega) (.cells #[.int .i64 0, .int .i64 0, .int .i64 0, .int .i64 0, .string ⟨#[]⟩, .slice ga 0 gc, .slice gb 0 gd] 46))
      go_upto_region 9 with fail
      obtain ⟨X, hX⟩ : ∃ X, X = w8.alloc (.cells #[.int .i64 0, .int .i64 0, .int .i64 0, .int .i64 0, .string ⟨#[]⟩, .slice ga 0 gc, .slice gb 0 gd] 46) := ⟨_, rfl⟩
      have hX2 := (Below.refl w8.heap.size w8).alloc (Nat.le_refl _) (.cells #[.int .i64 0, .int .i64 0, .int .i64 0, .int .i64 0, .string ⟨#[]⟩, .slice ga 0 gc, .slice gb 0 gd] 46)
      rw [← hX] at HB9 hX2 ⊢
      have c0 := cell_of_row _ _ 0 _ _ (0, 0) ((hX2.block _ (Gn.heap_lt HK8.out)).trans HK8.out)
      clear hX hX2 b8
      rcases hcase with hneg | ⟨hneg, hbig⟩
      · go_wp2
        go_ret
        exact ⟨rfl, HB9.out⟩
      · go_wp2
        go_ret
        exact ⟨rfl, HB9.out⟩
    · have hcb : codeB code = true := by unfold codeB; simp; omega
      rw [hcb, if_pos rfl] at hG
      subst hG
      have HB8 := HB7
      go_wp2_with fail
      refine (HGET.out _).mono ?_
      rintro e w8 ⟨gv, rfl, hg, b8⟩
      have HR8 := Lib.hid hg
      obtain ⟨ga, gc, gb, gd, rfl, -, -⟩ := hg
      have HB8 := Lib.hid (HB7.out.trans (b8.mono HB7.out.size))
      have HK8 := Lib.hid ((b8.block _ (Gn.heap_lt HK1.out)).trans HK1.out)
      have HK9 := Lib.hid ((b8.block _ (Gn.heap_lt HK2.out)).trans HK2.out)
      have HA8 := Lib.hid (HA7.out.under b8)
      have HV8 := Lib.hid (HV7.out.under b8)
      clear b8
      unfold canR at HR8
      dsimp only [canR] at HR8 ⊢
      rw [List.length_map, HN.out, HM.out] at HR8 ⊢
      obtain ⟨X, hX⟩ : ∃ X, X = w8.alloc (.cells #[.int .i64 code, .int .i64 line, .int .i64 col, .int .i64 count, .string tx, .slice ga n gc, .slice gb m gd] 46) := ⟨_, rfl⟩
      have hbX : Below w8.heap.size w8 X := by rw [hX]; exact (Below.refl _ _).alloc (Nat.le_refl _) _
      have hxX : X.heap[w8.heap.size]? = some (.cells #[.int .i64 code, .int .i64 line, .int .i64 col, .int .i64 count, .string tx, .slice ga n gc, .slice gb m gd] 46 (0, 0)) := by rw [hX]; exact heap_alloc_new _ _
      obtain ⟨p5, hp5⟩ : ∃ r, r = w8.heap.size := ⟨_, rfl⟩
      rw [← hp5] at hxX
      have HBX := Lib.hid (HB8.out.trans (hbX.mono HB8.out.size))
      have HL1 := Lib.hid ((hbX.block _ (Gn.heap_lt HK8.out)).trans HK8.out)
      have HL2 := Lib.hid ((hbX.block _ (Gn.heap_lt HK9.out)).trans HK9.out)
      have HLX := Lib.hid hxX
      have HA9 := Lib.hid (HA8.out.under hbX)
      have HV9 := Lib.hid (HV8.out.under hbX)
      have HR9 := Lib.hid (HR8.out.under hbX)
      have HXX := Lib.hid hX
      have HP5 := Lib.hid hp5
      clear hX hbX hxX hp5
      go_upto_region 9 with fail
      rw [← HXX.out, ← HP5.out]
      have y0 := cell_of_row _ _ 0 _ _ (0, 0) HL2.out
      have y1 := cell_of_row _ _ 1 _ _ (0, 0) HL2.out
      have y2 := cell_of_row _ _ 2 _ _ (0, 0) HL2.out
      have y3 := cell_of_row _ _ 3 _ _ (0, 0) HL2.out
      have y4 := cell_of_row _ _ 4 _ _ (0, 0) HL2.out
      have y5 := cell_of_row _ _ 5 _ _ (0, 0) HL2.out
      have y6 := cell_of_row _ _ 6 _ _ (0, 0) HL2.out
      have z0 := cell_of_row _ _ 0 _ _ (0, 0) HLX.out
      have z1 := cell_of_row _ _ 1 _ _ (0, 0) HLX.out
      have z2 := cell_of_row _ _ 2 _ _ (0, 0) HLX.out
      have z3 := cell_of_row _ _ 3 _ _ (0, 0) HLX.out
      have z4 := cell_of_row _ _ 4 _ _ (0, 0) HLX.out
      have z5 := cell_of_row _ _ 5 _ _ (0, 0) HLX.out
      have z6 := cell_of_row _ _ 6 _ _ (0, 0) HLX.out
      go_wp2_with fail
      refine (HACA.out _ _ _ HR9.out HV9.out).mono ?_
      rintro e w10 ⟨rfl, b10⟩
      clear y0 y1 y2 y3 y4 y5 y6 z0 z1 z2 z3 z4 z5 z6
      have HB10 := Lib.hid (HBX.out.trans (b10.mono HBX.out.size))
      have HM1 := Lib.hid ((b10.block _ (Gn.heap_lt HL1.out)).trans HL1.out)
      have HM5 := Lib.hid ((b10.block _ (Gn.heap_lt HLX.out)).trans HLX.out)
      have HA10 := Lib.hid (HA9.out.under b10)
      have HR10 := Lib.hid (HR9.out.under b10)
      clear b10
      have x0 := cell_of_row _ _ 0 _ _ (0, 0) HM1.out
      have x1 := cell_of_row _ _ 1 _ _ (0, 0) HM1.out
      have x2 := cell_of_row _ _ 2 _ _ (0, 0) HM1.out
      have x3 := cell_of_row _ _ 3 _ _ (0, 0) HM1.out
      have x4 := cell_of_row _ _ 4 _ _ (0, 0) HM1.out
      have x5 := cell_of_row _ _ 5 _ _ (0, 0) HM1.out
      have x6 := cell_of_row _ _ 6 _ _ (0, 0) HM1.out
      have z0 := cell_of_row _ _ 0 _ _ (0, 0) HM5.out
      have z1 := cell_of_row _ _ 1 _ _ (0, 0) HM5.out
      have z2 := cell_of_row _ _ 2 _ _ (0, 0) HM5.out
      have z3 := cell_of_row _ _ 3 _ _ (0, 0) HM5.out
      have z4 := cell_of_row _ _ 4 _ _ (0, 0) HM5.out
      have z5 := cell_of_row _ _ 5 _ _ (0, 0) HM5.out
      have z6 := cell_of_row _ _ 6 _ _ (0, 0) HM5.out
      go_wp2_with fail
      refine (HSCA.out _ _ _ HR10.out HA10.out).mono ?_
      rintro e w11 ⟨rfl, b11⟩
      clear x0 x1 x2 x3 x4 x5 x6 z0 z1 z2 z3 z4 z5 z6
      have HB11 := Lib.hid (HB10.out.trans (b11.mono HB10.out.size))
      clear b11
      go_wp2
      go_ret
      exact ⟨rfl, HB11.out⟩
end Go.Proofs.Ytbkfbejbloclgaa.Cm
