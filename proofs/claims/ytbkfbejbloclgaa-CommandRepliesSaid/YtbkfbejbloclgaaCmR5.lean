/-
  Layer 21: the laws' alike.
-/
import Derived.Test.YtbkfbejbloclgaaCmR4
import Derived.Test.YtbkfbejbloclgaaLooseD
namespace Go.Proofs.Ytbkfbejbloclgaa.Cm
open Go.RowKit
open Oct (pb bs Strs rInt rText rTexts rErr rEnd At Sep Gives strV OutSt OSep app eInt eText eTexts eLen rng)
open Lx (goodB)
open Gn (Asks)
open Mk (gm canon)
set_option maxRecDepth 100000
set_option linter.unusedSimpArgs false
set_option linter.unusedVariables false

def alikeR (r q : Rep) : Bool := decide (r.code = q.code) && decide (r.line = q.line) && decide (r.col = q.col) && decide (r.count = q.count) && decide (r.text = q.text) && decide (r.texts = q.texts) && decide (r.marks.length = q.marks.length) && decide (r.marks.map mk8 = q.marks.map mk8)
theorem alikeR_self (r : Rep) : alikeR r r = true := by unfold alikeR; simp
theorem rput8 (b : Nat) (hb : b < 18446744073709551616) (w : World) : Calls Try.prog 49 #[.float .f64 b] w fun e w' => e = .returned (.string (mk8 b)) ∧ Below w.heap.size w w' := Mk.rput_any b hb w
set_option maxHeartbeats 16000000 in
theorem alike_any (r q : Rep) (v u : Value) (w : World) (hv : RepAt w r v) (hu : RepAt w q u) (hr : FitsR r) (hq9 : FitsR q) :
    Calls Try.prog 21 #[v, u] w (Asks (alikeR r q) w) := by
  obtain ⟨a, cap, b, cap2, rfl, hs, hf⟩ := hv
  obtain ⟨a', cap', b', cap2', rfl, hk, hg⟩ := hu
  obtain ⟨c1, l1, o1, n1, t1, s1, m1⟩ := r
  obtain ⟨c2, l2, o2, n2, t2, s2, m2⟩ := q
  obtain ⟨_, f1, f2, f3⟩ := hr
  obtain ⟨_, g1, g2, g3⟩ := hq9
  dsimp only at *
  have HF3 := Lib.hid f3
  have HG3 := Lib.hid g3
  clear f3 g3
  obtain ⟨n, hn⟩ : ∃ n, n = s1.length := ⟨_, rfl⟩
  obtain ⟨n', hn'⟩ : ∃ n, n = s2.length := ⟨_, rfl⟩
  obtain ⟨m, hm⟩ : ∃ n, n = m1.length := ⟨_, rfl⟩
  obtain ⟨m', hm'⟩ : ∃ n, n = m2.length := ⟨_, rfl⟩
  rw [← hn] at hs f1 ⊢
  rw [← hn'] at hk g1 ⊢
  rw [← hm] at hf f2 ⊢
  rw [← hm'] at hg g2 ⊢
  obtain ⟨V, hV⟩ : ∃ V, V = (w.alloc (.cells #[.int .i64 c1, .int .i64 l1, .int .i64 o1, .int .i64 n1, .string t1, .slice a n cap, .slice b m cap2] 46)).alloc (.cells #[.int .i64 c2, .int .i64 l2, .int .i64 o2, .int .i64 n2, .string t2, .slice a' n' cap', .slice b' m' cap2'] 48) := ⟨_, rfl⟩
  have hb : Below w.heap.size w V := by rw [hV]; exact ((Below.refl _ w).alloc (Nat.le_refl _) _).alloc (by simp) _
  have hx : V.heap[w.heap.size]? = some (.cells #[.int .i64 c1, .int .i64 l1, .int .i64 o1, .int .i64 n1, .string t1, .slice a n cap, .slice b m cap2] 46 (0, 0)) := by rw [hV]; exact (heap_alloc_old _ _ (by simp)).trans (heap_alloc_new w _)
  have hy : V.heap[w.heap.size + 1]? = some (.cells #[.int .i64 c2, .int .i64 l2, .int .i64 o2, .int .i64 n2, .string t2, .slice a' n' cap', .slice b' m' cap2'] 48 (0, 0)) := by
    rw [hV]; have := heap_alloc_new (w.alloc (.cells #[.int .i64 c1, .int .i64 l1, .int .i64 o1, .int .i64 n1, .string t1, .slice a n cap, .slice b m cap2] 46)) (.cells #[.int .i64 c2, .int .i64 l2, .int .i64 o2, .int .i64 n2, .string t2, .slice a' n' cap', .slice b' m' cap2'] 48); simpa using this
  have HT := Lib.hid (texts_any a a' n n' cap cap' s1 s2 V (Strs.under hs hb) (Strs.under hk hb) (by omega))
  obtain ⟨tq, htq⟩ : ∃ g, g = decide (s1 = s2) := ⟨_, rfl⟩
  rw [← htq] at HT
  obtain ⟨z, hz⟩ : ∃ g, g = decide (m1.map mk8 = m2.map mk8) := ⟨_, rfl⟩
  obtain ⟨Q, hq⟩ : ∃ q, q = alikeR ⟨c1, l1, o1, n1, t1, s1, m1⟩ ⟨c2, l2, o2, n2, t2, s2, m2⟩ := ⟨_, rfl⟩
  rw [← hq]
  unfold alikeR at hq
  dsimp only at hq
  rw [← htq, ← hz, ← hm, ← hm'] at hq
  have HZ := Lib.hid hz
  have HB := Lib.hid hb
  have HV := Lib.hid hV
  have HX := Lib.hid hx
  have HY := Lib.hid hy
  have HFV := Lib.hid (Flts.under hf hb)
  have HGV := Lib.hid (Flts.under hg hb)
  have HM := Lib.hid hm
  have HM' := Lib.hid hm'
  have x0 := cell_of_row _ _ 0 _ _ (0, 0) hx
  have x1 := cell_of_row _ _ 1 _ _ (0, 0) hx
  have x2 := cell_of_row _ _ 2 _ _ (0, 0) hx
  have x3 := cell_of_row _ _ 3 _ _ (0, 0) hx
  have x4 := cell_of_row _ _ 4 _ _ (0, 0) hx
  have x5 := cell_of_row _ _ 5 _ _ (0, 0) hx
  have x6 := cell_of_row _ _ 6 _ _ (0, 0) hx
  have y0 := cell_of_row _ _ 0 _ _ (0, 0) hy
  have y1 := cell_of_row _ _ 1 _ _ (0, 0) hy
  have y2 := cell_of_row _ _ 2 _ _ (0, 0) hy
  have y3 := cell_of_row _ _ 3 _ _ (0, 0) hy
  have y4 := cell_of_row _ _ 4 _ _ (0, 0) hy
  have y5 := cell_of_row _ _ 5 _ _ (0, 0) hy
  have y6 := cell_of_row _ _ 6 _ _ (0, 0) hy
  clear hn hn' hm hm' htq hz hb hV hx hy hs hk hf hg
  by_cases h0 : c1 = c2
  · have f0 : (c1 == c2) = true := by rw [beq_iff_eq]; exact h0
    have q0 : (c1 != c2) = false := by unfold bne; rw [f0]; rfl
    rw [decide_eq_true h0] at hq
    clear h0
    by_cases h1 : l1 = l2
    · have f1 : (l1 == l2) = true := by rw [beq_iff_eq]; exact h1
      have q1 : (l1 != l2) = false := by unfold bne; rw [f1]; rfl
      rw [decide_eq_true h1] at hq
      clear h1
      by_cases h2 : o1 = o2
      · have f2 : (o1 == o2) = true := by rw [beq_iff_eq]; exact h2
        have q2 : (o1 != o2) = false := by unfold bne; rw [f2]; rfl
        rw [decide_eq_true h2] at hq
        clear h2
        by_cases h3 : n1 = n2
        · have f3 : (n1 == n2) = true := by rw [beq_iff_eq]; exact h3
          have q3 : (n1 != n2) = false := by unfold bne; rw [f3]; rfl
          rw [decide_eq_true h3] at hq
          clear h3
          by_cases h4 : t1 = t2
          · have f4 : (t1.toList == t2.toList) = true := by rw [toList_beq]; exact decide_eq_true h4
            have q4 : (t1.toList != t2.toList) = false := by unfold bne; rw [f4]; rfl
            rw [decide_eq_true h4] at hq
            clear h4
            cases tq with
            | false =>
              simp only [Bool.false_and, Bool.and_false, Bool.true_and] at hq
              have HQ := Lib.hid hq
              clear hq
              go_enter Try.func21, Try.ntmps21
              go_upto_region 1 with fail
              rw [← HV.out]
              go_wp2_with fail
              refine HT.out.mono ?_
              rintro e w9 ⟨rfl, hb9⟩
              have HB9 := Lib.hid (HB.out.trans (hb9.mono HB.out.size))
              have HX9 := Lib.hid ((hb9.block _ (Gn.heap_lt HX.out)).trans HX.out)
              have HY9 := Lib.hid ((hb9.block _ (Gn.heap_lt HY.out)).trans HY.out)
              have HF9 := Lib.hid (Flts.under HFV.out hb9)
              have HG9 := Lib.hid (Flts.under HGV.out hb9)
              clear hb9 x0 x1 x2 x3 x4 x5 x6 y0 y1 y2 y3 y4 y5 y6
              have x6 := cell_of_row _ _ 6 _ _ (0, 0) HX9.out
              have y6 := cell_of_row _ _ 6 _ _ (0, 0) HY9.out
              go_wp2
              go_ret
              exact ⟨by rw [HQ.out]; rfl, HB9.out⟩
            | true =>
              by_cases hmm : m = m'
              · subst hmm
                have fm : ((m : Int) != (m : Int)) = false := by unfold bne; rw [beq_self_eq_true]; rfl
                simp only [decide_true, Bool.true_and] at hq
                have HQ := Lib.hid hq
                clear hq
                go_enter Try.func21, Try.ntmps21
                go_upto_region 1 with fail
                rw [← HV.out]
                go_wp2_with fail
                refine HT.out.mono ?_
                rintro e w9 ⟨rfl, hb9⟩
                have HB9 := Lib.hid (HB.out.trans (hb9.mono HB.out.size))
                have HX9 := Lib.hid ((hb9.block _ (Gn.heap_lt HX.out)).trans HX.out)
                have HY9 := Lib.hid ((hb9.block _ (Gn.heap_lt HY.out)).trans HY.out)
                have HF9 := Lib.hid (Flts.under HFV.out hb9)
                have HG9 := Lib.hid (Flts.under HGV.out hb9)
                clear hb9 x0 x1 x2 x3 x4 x5 x6 y0 y1 y2 y3 y4 y5 y6
                have x6 := cell_of_row _ _ 6 _ _ (0, 0) HX9.out
                have y6 := cell_of_row _ _ 6 _ _ (0, 0) HY9.out
                go_wp2_with fail
                go_loopw [5] (fun i wr => ∃ j : Nat, j ≤ m ∧ i = .int .i64 j ∧ Below w9.heap.size w9 wr ∧ (m1.take j).map mk8 = (m2.take j).map mk8) (fun i _ => m - (intOf i).toNat)
                case atStart => exact ⟨0, Nat.zero_le _, rfl, Below.refl _ _, rfl⟩
                case round =>
                  obtain ⟨j, hj, rfl, hb0, ht0⟩ := hrel
                  have HBW := Lib.hid hb0
                  have HTK := Lib.hid ht0
                  clear hb0 ht0 x6 y6
                  have hxr := (HBW.out.block _ (Gn.heap_lt HX9.out)).trans HX9.out
                  have hyr := (HBW.out.block _ (Gn.heap_lt HY9.out)).trans HY9.out
                  have x6 := cell_of_row _ _ 6 _ _ (0, 0) hxr
                  have y6 := cell_of_row _ _ 6 _ _ (0, 0) hyr
                  have HXR := Lib.hid hxr
                  have HYR := Lib.hid hyr
                  clear hxr hyr
                  by_cases hlt : j < m
                  · have hlt2 : (j : Int) < (m : Int) := by omega
                    have hj1 : j < m1.length := by rw [← HM.out]; exact hlt
                    have hj2 : j < m2.length := by rw [← HM'.out]; exact hlt
                    obtain ⟨b1, of1, rfl, hb1, e1⟩ := Flts.get (Flts.under HF9.out HBW.out) j hlt
                    obtain ⟨b2, of2, rfl, hb2, e2⟩ := Flts.get (Flts.under HG9.out HBW.out) j hlt
                    obtain ⟨x, hx⟩ : ∃ x, x = m1[j] := ⟨_, rfl⟩
                    obtain ⟨y, hy⟩ : ∃ y, y = m2[j] := ⟨_, rfl⟩
                    rw [← hx] at e1
                    rw [← hy] at e2
                    obtain ⟨sx, hsx⟩ : ∃ s, s = mk8 x := ⟨_, rfl⟩
                    obtain ⟨sy, hsy⟩ : ∃ s, s = mk8 y := ⟨_, rfl⟩
                    have HPX := Lib.hid (fun (w : World) => show Calls Try.prog 49 #[.float .f64 x] w fun e w' => e = .returned (.string sx) ∧ Below w.heap.size w w' by rw [hsx]; exact rput8 x (by rw [hx]; exact HF3.out _ (List.getElem_mem _)) w)
                    have HPY := Lib.hid (fun (w : World) => show Calls Try.prog 49 #[.float .f64 y] w fun e w' => e = .returned (.string sy) ∧ Below w.heap.size w w' by rw [hsy]; exact rput8 y (by rw [hy]; exact HG3.out _ (List.getElem_mem _)) w)
                    have HCE := Lib.hid (fun (w5 : World) (b9 : Below wr.heap.size wr w5) => show w5.cell? ⟨w.heap.size, 6, none⟩ = some (.slice (some ⟨b1, of1, none⟩) m cap2) ∧ w5.cell? ⟨w.heap.size + 1, 6, none⟩ = some (.slice (some ⟨b2, of2, none⟩) m cap2') ∧ w5.cell? ⟨b1, of1 + j, none⟩ = some (.float .f64 x) ∧ w5.cell? ⟨b2, of2 + j, none⟩ = some (.float .f64 y) from
                      ⟨cell_of_row _ _ 6 _ _ (0, 0) ((b9.block _ (Gn.heap_lt HXR.out)).trans HXR.out), cell_of_row _ _ 6 _ _ (0, 0) ((b9.block _ (Gn.heap_lt HYR.out)).trans HYR.out), (b9.cell (p := ⟨b1, of1 + j, none⟩) hb1).trans e1, (b9.cell (p := ⟨b2, of2 + j, none⟩) hb2).trans e2⟩)
                    have HX1 := Lib.hid hx
                    have HY1 := Lib.hid hy
                    have HSX := Lib.hid hsx
                    have HSY := Lib.hid hsy
                    clear hx hy hsx hsy e1 e2
                    go_upto_region 6 with fail
                    clear x6 y6
                    by_cases hxy : sx = sy
                    · have p : (sx.toList == sy.toList) = true := by rw [toList_beq]; exact decide_eq_true hxy
                      have p' : (sx.toList != sy.toList) = false := by unfold bne; rw [p]; rfl
                      have HN := Lib.hid (show (m1.take (j + 1)).map mk8 = (m2.take (j + 1)).map mk8 by
                        rw [List.take_succ_eq_append_getElem hj1, List.take_succ_eq_append_getElem hj2, List.map_append, List.map_append, HTK.out, ← HX1.out, ← HY1.out]
                        show _ ++ [mk8 x] = _ ++ [mk8 y]
                        rw [← HSX.out, ← HSY.out, hxy])
                      clear hxy
                      refine LooseD.region_loose (fun w5 => Below wr.heap.size wr w5) _ _ (by kernel_rfl) (by kernel_rfl)
                        (LooseD.waits (D := [[], [], [], [], [], [], [], [], [], [], [], [], []]) (by kernel_rfl))
                        (LooseD.stays (ts := [none, none, none, none, none, some (.is (.string sx)), none, none, none, none, none, some (.is (.string sy)), none]) (fun w w' h b => h.trans (b.mono h.size)) (.none (.none (.none (.none (.none (.is (.none (.none (.none (.none (.none (.is (.none .nil))))))))))))))
                        (Gn.below_drew (Below.refl _ _)) ?_
                      refine LooseD.reads (.pointer (some ⟨w.heap.size, 6, none⟩)) rfl rfl ?_ ?_
                      · intro w5 hw
                        obtain ⟨p1, p2, p3, p4⟩ := HCE.out w5 hw
                        clear hw
                        go_simp
                      try simp only [Act.put, List.setIfInBounds_toArray, List.set_cons_zero, List.set_cons_succ]
                      refine LooseD.reads (.slice (some ⟨b1, of1, none⟩) m cap2) rfl rfl ?_ ?_
                      · intro w5 hw
                        obtain ⟨p1, p2, p3, p4⟩ := HCE.out w5 hw
                        clear hw
                        go_simp
                      try simp only [Act.put, List.setIfInBounds_toArray, List.set_cons_zero, List.set_cons_succ]
                      refine LooseD.reads (.int .i64 j) rfl rfl ?_ ?_
                      · intro w5 hw
                        clear hw
                        go_simp
                      try simp only [Act.put, List.setIfInBounds_toArray, List.set_cons_zero, List.set_cons_succ]
                      refine LooseD.reads (.pointer (some ⟨b1, of1 + j, none⟩)) rfl rfl ?_ ?_
                      · intro w5 hw
                        clear hw
                        go_simp
                      try simp only [Act.put, List.setIfInBounds_toArray, List.set_cons_zero, List.set_cons_succ]
                      refine LooseD.reads (.float .f64 x) rfl rfl ?_ ?_
                      · intro w5 hw
                        obtain ⟨p1, p2, p3, p4⟩ := HCE.out w5 hw
                        clear hw
                        go_simp
                      try simp only [Act.put, List.setIfInBounds_toArray, List.set_cons_zero, List.set_cons_succ]
                      refine LooseD.gives (.string sx) 49 #[.float .f64 x] rfl rfl ?_ (fun w5 hw hH => HPX.out w5) ?_
                      · intro w5 hw
                        clear hw
                        go_simp
                      try simp only [Act.put, List.setIfInBounds_toArray, List.set_cons_zero, List.set_cons_succ]
                      refine LooseD.reads (.pointer (some ⟨w.heap.size + 1, 6, none⟩)) rfl rfl ?_ ?_
                      · intro w5 hw
                        obtain ⟨p1, p2, p3, p4⟩ := HCE.out w5 hw
                        clear hw
                        go_simp
                      try simp only [Act.put, List.setIfInBounds_toArray, List.set_cons_zero, List.set_cons_succ]
                      refine LooseD.reads (.slice (some ⟨b2, of2, none⟩) m cap2') rfl rfl ?_ ?_
                      · intro w5 hw
                        obtain ⟨p1, p2, p3, p4⟩ := HCE.out w5 hw
                        clear hw
                        go_simp
                      try simp only [Act.put, List.setIfInBounds_toArray, List.set_cons_zero, List.set_cons_succ]
                      refine LooseD.reads (.int .i64 j) rfl rfl ?_ ?_
                      · intro w5 hw
                        clear hw
                        go_simp
                      try simp only [Act.put, List.setIfInBounds_toArray, List.set_cons_zero, List.set_cons_succ]
                      refine LooseD.reads (.pointer (some ⟨b2, of2 + j, none⟩)) rfl rfl ?_ ?_
                      · intro w5 hw
                        clear hw
                        go_simp
                      try simp only [Act.put, List.setIfInBounds_toArray, List.set_cons_zero, List.set_cons_succ]
                      refine LooseD.reads (.float .f64 y) rfl rfl ?_ ?_
                      · intro w5 hw
                        obtain ⟨p1, p2, p3, p4⟩ := HCE.out w5 hw
                        clear hw
                        go_simp
                      try simp only [Act.put, List.setIfInBounds_toArray, List.set_cons_zero, List.set_cons_succ]
                      refine LooseD.gives (.string sy) 49 #[.float .f64 y] rfl rfl ?_ (fun w5 hw hH => HPY.out w5) ?_
                      · intro w5 hw
                        clear hw
                        go_simp
                      try simp only [Act.put, List.setIfInBounds_toArray, List.set_cons_zero, List.set_cons_succ]
                      refine LooseD.reads (.bool false) rfl rfl ?_ ?_
                      · intro w5 hw
                        clear hw
                        go_simp
                      try simp only [Act.put, List.setIfInBounds_toArray, List.set_cons_zero, List.set_cons_succ]
                      refine LooseD.done ?_
                      intro w5 hw5 _
                      have HB5 := Lib.hid (HBW.out.trans (hw5.mono HBW.out.size))
                      clear hw5
                      go_wp2_with fail
                      go_roundw
                      case rel => exact ⟨j + 1, by omega, by go_num, HB5.out, HN.out⟩
                      case measure => simp [intOf]; omega
                    · have p : (sx.toList == sy.toList) = false := by rw [toList_beq]; exact decide_eq_false hxy
                      have p' : (sx.toList != sy.toList) = true := by unfold bne; rw [p]; rfl
                      have HFL := Lib.hid (show z = false by
                        rw [HZ.out]
                        refine decide_eq_false fun e => hxy ?_
                        have h0 := congrArg (fun l => l[j]?) e
                        simp only [List.getElem?_map, List.getElem?_eq_getElem hj1, List.getElem?_eq_getElem hj2, Option.map_some] at h0
                        injection h0 with h0
                        rw [HSX.out, HSY.out, HX1.out, HY1.out, h0])
                      clear hxy
                      refine LooseD.region_loose (fun w5 => Below wr.heap.size wr w5) _ _ (by kernel_rfl) (by kernel_rfl)
                        (LooseD.waits (D := [[], [], [], [], [], [], [], [], [], [], [], [], []]) (by kernel_rfl))
                        (LooseD.stays (ts := [none, none, none, none, none, some (.is (.string sx)), none, none, none, none, none, some (.is (.string sy)), none]) (fun w w' h b => h.trans (b.mono h.size)) (.none (.none (.none (.none (.none (.is (.none (.none (.none (.none (.none (.is (.none .nil))))))))))))))
                        (Gn.below_drew (Below.refl _ _)) ?_
                      refine LooseD.reads (.pointer (some ⟨w.heap.size, 6, none⟩)) rfl rfl ?_ ?_
                      · intro w5 hw
                        obtain ⟨p1, p2, p3, p4⟩ := HCE.out w5 hw
                        clear hw
                        go_simp
                      try simp only [Act.put, List.setIfInBounds_toArray, List.set_cons_zero, List.set_cons_succ]
                      refine LooseD.reads (.slice (some ⟨b1, of1, none⟩) m cap2) rfl rfl ?_ ?_
                      · intro w5 hw
                        obtain ⟨p1, p2, p3, p4⟩ := HCE.out w5 hw
                        clear hw
                        go_simp
                      try simp only [Act.put, List.setIfInBounds_toArray, List.set_cons_zero, List.set_cons_succ]
                      refine LooseD.reads (.int .i64 j) rfl rfl ?_ ?_
                      · intro w5 hw
                        clear hw
                        go_simp
                      try simp only [Act.put, List.setIfInBounds_toArray, List.set_cons_zero, List.set_cons_succ]
                      refine LooseD.reads (.pointer (some ⟨b1, of1 + j, none⟩)) rfl rfl ?_ ?_
                      · intro w5 hw
                        clear hw
                        go_simp
                      try simp only [Act.put, List.setIfInBounds_toArray, List.set_cons_zero, List.set_cons_succ]
                      refine LooseD.reads (.float .f64 x) rfl rfl ?_ ?_
                      · intro w5 hw
                        obtain ⟨p1, p2, p3, p4⟩ := HCE.out w5 hw
                        clear hw
                        go_simp
                      try simp only [Act.put, List.setIfInBounds_toArray, List.set_cons_zero, List.set_cons_succ]
                      refine LooseD.gives (.string sx) 49 #[.float .f64 x] rfl rfl ?_ (fun w5 hw hH => HPX.out w5) ?_
                      · intro w5 hw
                        clear hw
                        go_simp
                      try simp only [Act.put, List.setIfInBounds_toArray, List.set_cons_zero, List.set_cons_succ]
                      refine LooseD.reads (.pointer (some ⟨w.heap.size + 1, 6, none⟩)) rfl rfl ?_ ?_
                      · intro w5 hw
                        obtain ⟨p1, p2, p3, p4⟩ := HCE.out w5 hw
                        clear hw
                        go_simp
                      try simp only [Act.put, List.setIfInBounds_toArray, List.set_cons_zero, List.set_cons_succ]
                      refine LooseD.reads (.slice (some ⟨b2, of2, none⟩) m cap2') rfl rfl ?_ ?_
                      · intro w5 hw
                        obtain ⟨p1, p2, p3, p4⟩ := HCE.out w5 hw
                        clear hw
                        go_simp
                      try simp only [Act.put, List.setIfInBounds_toArray, List.set_cons_zero, List.set_cons_succ]
                      refine LooseD.reads (.int .i64 j) rfl rfl ?_ ?_
                      · intro w5 hw
                        clear hw
                        go_simp
                      try simp only [Act.put, List.setIfInBounds_toArray, List.set_cons_zero, List.set_cons_succ]
                      refine LooseD.reads (.pointer (some ⟨b2, of2 + j, none⟩)) rfl rfl ?_ ?_
                      · intro w5 hw
                        clear hw
                        go_simp
                      try simp only [Act.put, List.setIfInBounds_toArray, List.set_cons_zero, List.set_cons_succ]
                      refine LooseD.reads (.float .f64 y) rfl rfl ?_ ?_
                      · intro w5 hw
                        obtain ⟨p1, p2, p3, p4⟩ := HCE.out w5 hw
                        clear hw
                        go_simp
                      try simp only [Act.put, List.setIfInBounds_toArray, List.set_cons_zero, List.set_cons_succ]
                      refine LooseD.gives (.string sy) 49 #[.float .f64 y] rfl rfl ?_ (fun w5 hw hH => HPY.out w5) ?_
                      · intro w5 hw
                        clear hw
                        go_simp
                      try simp only [Act.put, List.setIfInBounds_toArray, List.set_cons_zero, List.set_cons_succ]
                      refine LooseD.reads (.bool true) rfl rfl ?_ ?_
                      · intro w5 hw
                        clear hw
                        go_simp
                      try simp only [Act.put, List.setIfInBounds_toArray, List.set_cons_zero, List.set_cons_succ]
                      refine LooseD.done ?_
                      intro w5 hw5 _
                      have HB5 := Lib.hid (HBW.out.trans (hw5.mono HBW.out.size))
                      clear hw5
                      go_wp2_with fail
                      go_ret
                      exact ⟨by rw [HQ.out, HFL.out]; rfl, HB9.out.trans (HB5.out.mono HB9.out.size)⟩
                  · have hje : j = m := by omega
                    subst hje
                    have HFL := Lib.hid (show z = true by
                      rw [HZ.out]
                      refine decide_eq_true ?_
                      have := HTK.out
                      rwa [List.take_of_length_le (by rw [← HM.out]; exact Nat.le_refl _), List.take_of_length_le (by rw [← HM'.out]; exact Nat.le_refl _)] at this)
                    go_wp2_with fail
                    go_ret
                    exact ⟨by rw [HQ.out, HFL.out]; rfl, HB9.out.trans (HBW.out.mono HB9.out.size)⟩
              · have fm : ((m : Int) != (m' : Int)) = true := by rw [bne_iff_ne]; omega
                rw [decide_eq_false hmm] at hq
                simp only [Bool.false_and, Bool.and_false, Bool.true_and] at hq
                have HQ := Lib.hid hq
                clear hq
                go_enter Try.func21, Try.ntmps21
                go_upto_region 1 with fail
                rw [← HV.out]
                go_wp2_with fail
                refine HT.out.mono ?_
                rintro e w9 ⟨rfl, hb9⟩
                have HB9 := Lib.hid (HB.out.trans (hb9.mono HB.out.size))
                have HX9 := Lib.hid ((hb9.block _ (Gn.heap_lt HX.out)).trans HX.out)
                have HY9 := Lib.hid ((hb9.block _ (Gn.heap_lt HY.out)).trans HY.out)
                have HF9 := Lib.hid (Flts.under HFV.out hb9)
                have HG9 := Lib.hid (Flts.under HGV.out hb9)
                clear hb9 x0 x1 x2 x3 x4 x5 x6 y0 y1 y2 y3 y4 y5 y6
                have x6 := cell_of_row _ _ 6 _ _ (0, 0) HX9.out
                have y6 := cell_of_row _ _ 6 _ _ (0, 0) HY9.out
                go_wp2
                go_ret
                exact ⟨by rw [HQ.out]; rfl, HB9.out⟩
          · have f4 : (t1.toList == t2.toList) = false := by rw [toList_beq]; exact decide_eq_false h4
            have q4 : (t1.toList != t2.toList) = true := by unfold bne; rw [f4]; rfl
            rw [decide_eq_false h4] at hq
            simp only [Bool.false_and, Bool.and_false, Bool.true_and] at hq
            clear h4
            have HQ := Lib.hid hq
            clear hq
            go_enter Try.func21, Try.ntmps21
            go_upto_region 1 with fail
            rw [← HV.out]
            go_wp2
            go_ret
            exact ⟨by rw [HQ.out]; rfl, HB.out⟩
        · have f3 : (n1 == n2) = false := by rw [beq_eq_false_iff_ne]; exact h3
          have q3 : (n1 != n2) = true := by unfold bne; rw [f3]; rfl
          rw [decide_eq_false h3] at hq
          simp only [Bool.false_and, Bool.and_false, Bool.true_and] at hq
          clear h3
          have HQ := Lib.hid hq
          clear hq
          go_enter Try.func21, Try.ntmps21
          go_upto_region 1 with fail
          rw [← HV.out]
          go_wp2
          go_ret
          exact ⟨by rw [HQ.out]; rfl, HB.out⟩
      · have f2 : (o1 == o2) = false := by rw [beq_eq_false_iff_ne]; exact h2
        have q2 : (o1 != o2) = true := by unfold bne; rw [f2]; rfl
        rw [decide_eq_false h2] at hq
        simp only [Bool.false_and, Bool.and_false, Bool.true_and] at hq
        clear h2
        have HQ := Lib.hid hq
        clear hq
        go_enter Try.func21, Try.ntmps21
        go_upto_region 1 with fail
        rw [← HV.out]
        go_wp2
        go_ret
        exact ⟨by rw [HQ.out]; rfl, HB.out⟩
    · have f1 : (l1 == l2) = false := by rw [beq_eq_false_iff_ne]; exact h1
      have q1 : (l1 != l2) = true := by unfold bne; rw [f1]; rfl
      rw [decide_eq_false h1] at hq
      simp only [Bool.false_and, Bool.and_false, Bool.true_and] at hq
      clear h1
      have HQ := Lib.hid hq
      clear hq
      go_enter Try.func21, Try.ntmps21
      go_upto_region 1 with fail
      rw [← HV.out]
      go_wp2
      go_ret
      exact ⟨by rw [HQ.out]; rfl, HB.out⟩
  · have f0 : (c1 == c2) = false := by rw [beq_eq_false_iff_ne]; exact h0
    have q0 : (c1 != c2) = true := by unfold bne; rw [f0]; rfl
    rw [decide_eq_false h0] at hq
    simp only [Bool.false_and, Bool.and_false, Bool.true_and] at hq
    clear h0
    have HQ := Lib.hid hq
    clear hq
    go_enter Try.func21, Try.ntmps21
    go_upto_region 1 with fail
    rw [← HV.out]
    go_wp2
    go_ret
    exact ⟨by rw [HQ.out]; rfl, HB.out⟩
end Go.Proofs.Ytbkfbejbloclgaa.Cm
