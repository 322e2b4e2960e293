/-
  Layer 14: the document's Check.
  Layer 14: the document's Text.
-/
import Derived.Test.YtdknlifpoihnmaaTrSm
import Derived.Test.YtdknlifpoihnmaaTrThere
import Derived.Test.YtdknlifpoihnmaaTrYield
import Derived.Test.YtdknlifpoihnmaaTrNa
import Derived.Test.YtdknlifpoihnmaaLooseD
import Derived.Test.YtdknlifpoihnmaaTrJ
import Derived.Test.YtdknlifpoihnmaaQtRefQuote

namespace Go.Proofs.Ytdknlifpoihnmaa.Tr
open Go.RowKit
open Gn (Asks)
open Fx (IntsAt StrsAt Prd PG PrdsAt PgAt)
set_option maxRecDepth 100000
set_option linter.unusedSimpArgs false
set_option linter.unusedVariables false
theorem there_all (g : PG) (hf : Fit g) (P : Nat → Prop) (W : World) (v : Value) (h : PgAt P W g v) (n : Int) (hw1 : n < 0 → IntKind.i64.wrap (-1 - n) = -1 - n) :
    Calls Try.prog 33 #[v, .int .i64 n] W (Asks (rootT g n).2 W) := by
  obtain ⟨An, At_, Ap, cn, ct, cp, rfl, hN, hT, hP⟩ := h.open_
  obtain ⟨lt, hlt⟩ : ∃ lt, lt = g.terms.length := ⟨_, rfl⟩
  obtain ⟨lp, hlp⟩ : ∃ lp, lp = g.prods.length := ⟨_, rfl⟩
  have h1 := hf.terms
  have h2 := hf.prods
  rw [← hlt] at h1
  rw [← hlp] at h2
  have HB := Lib.hid ((Below.refl W.heap.size W).alloc (Nat.le_refl _) (.cells #[.int .i64 g.start, .int .i64 g.rules, .slice An g.names.length cn, .slice At_ g.terms.length ct, .slice Ap g.prods.length cp] 34))
  have hbx := heap_alloc_new W (.cells #[.int .i64 g.start, .int .i64 g.rules, .slice An g.names.length cn, .slice At_ g.terms.length ct, .slice Ap g.prods.length cp] 34)
  rw [← hlt, ← hlp] at HB hbx ⊢
  have b3 := cell_of_row _ _ 3 _ _ (0, 0) hbx
  have b4 := cell_of_row _ _ 4 _ _ (0, 0) hbx
  obtain ⟨rb, hrb⟩ : ∃ rb, rb = (rootT g n).2 := ⟨_, rfl⟩
  rw [← hrb]
  have hrt : rb = if n < 0 then decide (-1 - n < (lt : Int)) else decide (n < (lp : Int)) := by
    rw [hrb]
    unfold rootT
    split
    · rw [← hlt]
      exact decide_eq_decide.2 (by omega)
    · split
      · rename_i h5 h6
        exact (decide_eq_true (by omega)).symm
      · rename_i h5 h6
        exact (decide_eq_false (by omega)).symm
  have HRT := Lib.hid hrt
  clear hbx hT hN hP h hlt hlp hrb hrt
  by_cases hn : n < 0
  · have hw := hw1 hn
    have HQ := Lib.hid (show rb = decide (-1 - n < (lt : Int)) by rw [HRT.out, if_pos hn])
    clear HRT
    go_enter Try.func33, Try.ntmps33
    go_wp2_with fail
    go_ret
    rw [HQ.out]
    exact ⟨rfl, HB.out⟩
  · have HQ := Lib.hid (show rb = decide (n < (lp : Int)) by rw [HRT.out, if_neg hn])
    clear HRT
    go_enter Try.func33, Try.ntmps33
    go_wp2_with fail
    go_ret
    rw [HQ.out]
    exact ⟨rfl, HB.out⟩

theorem fitsL_one (g : PG) (l : List Tr) (ss : List Int) (j : Nat) (h1 : j < l.length) (h2 : j < ss.length) : fitsL g (l.drop j) (ss.drop j) = (kidB g l[j] ss[j] && fitsL g (l.drop (j + 1)) (ss.drop (j + 1))) := by
  rw [List.drop_eq_getElem_cons h1, List.drop_eq_getElem_cons h2, fitsL, kidB]
set_option maxHeartbeats 16000000 in
theorem rcheck_any (g : PG) (hf : Fit g) (hsd : ∀ n, (sideT g n).length ≤ 1099511627776) {t : Tr} (hs : SmT t) : InT t → ∀ (P Q : Nat → Prop) (W : World) (x y v : Value), TrAt P W t x y → PgAt Q W g v → Calls Try.prog 12 #[v, .agg #[x, y]] W (Asks (fitsT g t) W) := by
  induction hs with
  | mk n l hlen hl ih =>
    intro hin P Q W x y v h hg
    obtain ⟨rfl, A, cap, r, a, b, rfl, hcap, hA, hc⟩ := h.open_
    obtain ⟨An, At_, Ap, cn, ct, cp, rfl, hN, hT, hP⟩ := hg.open_
    obtain ⟨m, hm⟩ : ∃ m, m = l.length := ⟨_, rfl⟩
    rw [← hm] at hA hcap hlen ⊢
    obtain ⟨V, hV⟩ : ∃ V, V = (W.alloc (.cells #[.int .i64 g.start, .int .i64 g.rules, .slice An g.names.length cn, .slice At_ g.terms.length ct, .slice Ap g.prods.length cp] 34)).alloc (.cells #[.int .i64 n, .slice A m cap] 43) := ⟨_, rfl⟩
    have hb0 : Below W.heap.size W V := by rw [hV]; exact ((Below.refl _ W).alloc (Nat.le_refl _) _).alloc (by simp) _
    have hx0 : V.heap[W.heap.size]? = some (.cells #[.int .i64 g.start, .int .i64 g.rules, .slice An g.names.length cn, .slice At_ g.terms.length ct, .slice Ap g.prods.length cp] 34 (0, 0)) := by rw [hV]; exact (heap_alloc_old _ _ (by simp)).trans (heap_alloc_new W _)
    have hx1 : V.heap[W.heap.size + 1]? = some (.cells #[.int .i64 n, .slice A m cap] 43 (0, 0)) := by
      rw [hV]; have := heap_alloc_new (W.alloc (.cells #[.int .i64 g.start, .int .i64 g.rules, .slice An g.names.length cn, .slice At_ g.terms.length ct, .slice Ap g.prods.length cp] 34)) (.cells #[.int .i64 n, .slice A m cap] 43); simpa using this
    have HMM := Lib.hid hm
    have HA := Lib.hid hA
    have HC := Lib.hid hc
    have HIH := Lib.hid ih
    have HV := Lib.hid hV
    have HB0 := Lib.hid hb0
    have HX0 := Lib.hid hx0
    have HX1 := Lib.hid hx1
    have HIN := Lib.hid hin
    have HPG := Lib.hid hg
    have HTH := Lib.hid (there_all g hf Q V _ (hg.under hb0) n (hin n (by rw [preT]; exact List.mem_cons_self)))
    have hsl := hsd n
    have g0 := cell_of_row _ _ 0 _ _ (0, 0) hx0
    have g1 := cell_of_row _ _ 1 _ _ (0, 0) hx0
    have g2 := cell_of_row _ _ 2 _ _ (0, 0) hx0
    have g3 := cell_of_row _ _ 3 _ _ (0, 0) hx0
    have g4 := cell_of_row _ _ 4 _ _ (0, 0) hx0
    have t0 := cell_of_row _ _ 0 _ _ (0, 0) hx1
    obtain ⟨F0, hF0⟩ : ∃ F0, F0 = fitsT g (.mk n l) := ⟨_, rfl⟩
    rw [← hF0]
    rw [fitsT] at hF0
    obtain ⟨rb, hrb⟩ : ∃ rb, rb = (rootT g n).2 := ⟨_, rfl⟩
    obtain ⟨F, hF⟩ : ∃ F, F = fitsL g l (sideT g n) := ⟨_, rfl⟩
    rw [← hrb] at hF0 HTH
    rw [← hF] at hF0
    have HRB := Lib.hid hrb
    have HF := Lib.hid hF
    have HF0 := Lib.hid hF0
    clear hm hA hc ih hl h hV hb0 hx0 hx1 hin hg hN hT hP hF0 hrb hF
    go_enter Try.func12, Try.ntmps12
    go_upto_region 1 with fail
    rw [← HV.out]
    go_wp2_with fail
    refine HTH.out.mono ?_
    rintro e w1 ⟨rfl, b1⟩
    have HB1 := Lib.hid (HB0.out.trans (b1.mono HB0.out.size))
    have HY0 := Lib.hid ((b1.block _ (Gn.heap_lt HX0.out)).trans HX0.out)
    have HY1 := Lib.hid ((b1.block _ (Gn.heap_lt HX1.out)).trans HX1.out)
    clear b1 g0 g1 g2 g3 g4 t0
    cases rb
    · have hR0 : F0 = false := HF0.out
      subst hR0
      go_wp2_with fail
      go_ret
      exact ⟨rfl, HB1.out⟩
    have hF1 : F0 = F := HF0.out
    subst hF1
    have t0 := cell_of_row _ _ 0 _ _ (0, 0) HY1.out
    have t1 := cell_of_row _ _ 1 _ _ (0, 0) HY1.out
    have g4 := cell_of_row _ _ 4 _ _ (0, 0) HY0.out
    clear HF0
    obtain ⟨ys, hys⟩ : ∃ ys, ys = sideT g n := ⟨_, rfl⟩
    rw [← hys] at hsl HF
    by_cases hneg : n < 0
    · have hng : ¬ (0 : Int) ≤ n := by omega
      have hysn : ys = [] := by rw [hys]; unfold sideT; rw [if_pos hneg]
      by_cases hm0 : m = 0
      · have hl0 : l = [] := List.eq_nil_of_length_eq_zero (by rw [← HMM.out]; exact hm0)
        have hR1 : F0 = true := by rw [HF.out, hysn, hl0, fitsL]
        have e1 : ((0 : Int) != (m : Int)) = false := by rw [hm0]; rfl
        subst hR1
        clear hys hysn hl0 hm0
        go_wp2_with fail
        go_loopw [6] (fun i wr => i = .int .i64 0 ∧ wr = w1) (fun i _ => 0)
        case atStart => exact ⟨rfl, rfl⟩
        case round =>
          obtain ⟨rfl, rfl⟩ := hrel
          go_wp2_with fail
          go_ret
          exact ⟨rfl, HB1.out⟩
      · have hR0 : F0 = false := by rw [HF.out]; exact fitsL_len g l ys (by rw [← HMM.out, hysn]; exact hm0)
        have e1 : ((0 : Int) != (m : Int)) = true := by rw [bne_iff_ne]; omega
        subst hR0
        clear hys hysn
        go_wp2_with fail
        go_ret
        exact ⟨rfl, HB1.out⟩
    · have hkkp : n.toNat < g.prods.length := by
        have h9 := HRB.out
        unfold rootT at h9
        rw [if_neg hneg] at h9
        split at h9
        · assumption
        · cases h9
      have hng : (0 : Int) ≤ n := by omega
      obtain ⟨kk, hkk⟩ : ∃ kk : Nat, n = (kk : Int) := ⟨n.toNat, by omega⟩
      subst hkk
      obtain ⟨A2, cap2, bP, fP, e2, hcp, hA2, hc2⟩ := prods4 HPG.out
      injection e2 with e21 e22 e23
      subst e21 e23
      clear e22
      have hkp : kk < g.prods.length := by simpa using hkkp
      obtain ⟨rfl, hbl, hPb⟩ := hA2 (by omega)
      obtain ⟨q0, q1, q2⟩ := hc2 kk hkp
      have hE : sideT g (kk : Int) = g.prods[kk].right := by unfold sideT; rw [if_neg hneg, dif_pos (by simpa using hkp)]; simp
      rw [← hE, ← hys] at q2
      obtain ⟨A9, c9, b9, e9, hc9, h39, h49⟩ := q2
      rw [e9] at q1
      have yq := (HB1.out.cell (p := ⟨bP, kk * 2 + 1, none⟩) hbl).trans q1
      obtain ⟨ml, hml⟩ : ∃ ml, ml = ys.length := ⟨_, rfl⟩
      rw [← hml] at yq hsl h39 hc9
      have HML := Lib.hid hml
      have H39 := Lib.hid h39
      have H49 := Lib.hid h49
      clear q0 q1 hc2 hE e9 hA2 hkkp hml h39 h49 hys
      by_cases hmm : ml = m
      · subst hmm
        have e1 : ((ml : Int) != (ml : Int)) = false := by simp
        go_wp2_with fail
        go_loopw [6] (fun i wr => ∃ j : Nat, j ≤ ml ∧ i = .int .i64 j ∧ Below w1.heap.size w1 wr ∧ fitsL g (l.drop j) (ys.drop j) = F0) (fun i _ => ml - (intOf i).toNat)
        case atStart => exact ⟨0, Nat.zero_le _, rfl, Below.refl _ _, HF.out.symm⟩
        case round =>
          obtain ⟨j, hj, rfl, hbel, hE⟩ := hrel
          have HE := Lib.hid hE
          have HBV := Lib.hid hbel
          have HBL := Lib.hid (HB1.out.trans (hbel.mono HB1.out.size))
          clear hbel hE
          by_cases hjm : j < ml
          · have hjm2 : (j : Int) < (ml : Int) := by omega
            have hjl : j < l.length := by rw [← HMM.out]; exact hjm
            have hjy : j < ys.length := by rw [← HML.out]; exact hjm
            obtain ⟨eA, hr, hPr⟩ := HA.out (by omega)
            subst eA
            obtain ⟨eA9, hb9, hQ9⟩ := H39.out (by omega)
            subst eA9
            have hsy := H49.out j hjy
            obtain ⟨sy, hsy2⟩ : ∃ sy, sy = ys[j] := ⟨_, rfl⟩
            rw [← hsy2] at hsy
            obtain ⟨⟨p0, p1⟩, hk9⟩ := HC.out j hjl
            obtain ⟨kn, kA, km, kc, f1, f2⟩ := hk9.form
            rw [f1] at p0
            rw [f2] at p1
            rw [f1, f2] at hk9
            have hkn : l[j].prod = kn := by
              generalize l[j] = lj at hk9
              cases hk9
              rfl
            have HMK := Lib.hid (fun (w : World) (bw : Below wr.heap.size wr w) => (show w.cell? ⟨W.heap.size, 0, none⟩ = some (.int .i64 g.start) ∧ w.cell? ⟨W.heap.size, 1, none⟩ = some (.int .i64 g.rules) ∧ w.cell? ⟨W.heap.size, 2, none⟩ = some (.slice An g.names.length cn) ∧ w.cell? ⟨W.heap.size, 3, none⟩ = some (.slice At_ g.terms.length ct) ∧ w.cell? ⟨W.heap.size, 4, none⟩ = some (.slice (some ⟨bP, 0, none⟩) g.prods.length cp) ∧ w.cell? ⟨W.heap.size + 1, 1, none⟩ = some (.slice (some ⟨r, 0, none⟩) ml cap) ∧ w.cell? ⟨r, j * 2, none⟩ = some (.int .i64 kn) ∧ w.cell? ⟨r, j * 2 + 1, none⟩ = some (.slice kA km kc) ∧ w.cell? ⟨b9, j, none⟩ = some (.int .i64 sy) from (by
              have bt := HBL.out.trans (bw.mono HBL.out.size)
              have bv := HBV.out.trans (bw.mono HBV.out.size)
              have hx0 := (bv.block _ (Gn.heap_lt HY0.out)).trans HY0.out
              have hx1 := (bv.block _ (Gn.heap_lt HY1.out)).trans HY1.out
              exact ⟨cell_of_row _ _ 0 _ _ (0, 0) hx0, cell_of_row _ _ 1 _ _ (0, 0) hx0, cell_of_row _ _ 2 _ _ (0, 0) hx0, cell_of_row _ _ 3 _ _ (0, 0) hx0, cell_of_row _ _ 4 _ _ (0, 0) hx0, cell_of_row _ _ 1 _ _ (0, 0) hx1, (bt.cell (p := ⟨r, j * 2, none⟩) hr).trans p0, (bt.cell (p := ⟨r, j * 2 + 1, none⟩) hr).trans p1, (bt.cell (p := ⟨b9, j, none⟩) hb9).trans hsy⟩)))
            have hkc := fun (w : World) (bw : Below wr.heap.size wr w) => HIH.out l[j] (List.getElem_mem hjl) (HIN.out.kid hjl) P Q w _ _ _ (hk9.under (HBL.out.trans (bw.mono HBL.out.size))) (HPG.out.under (HBL.out.trans (bw.mono HBL.out.size)))
            obtain ⟨kb, hkb⟩ : ∃ kb, kb = fitsT g l[j] := ⟨_, rfl⟩
            have hst := fitsL_one g l ys j hjl hjy
            rw [HE.out, ← hsy2, kidB, hkn, ← hkb] at hst
            rw [← hkb] at hkc
            have HKC := Lib.hid (fun (w : World) (bw : Below wr.heap.size wr w) => (hkc w bw).mono fun e w' h => show e = .returned (.bool kb) ∧ Below w.heap.size w w' from h)
            have hrt : kb = true → (rootT g kn).2 = true := fun h9 => by
              rw [hkb] at h9
              have := fits_root h9
              rwa [hkn] at this
            have HST := Lib.hid hst
            have HMMM := HMM.out
            have z1 := (HMK.out wr (Below.refl _ _)).2.2.2.2.2.1
            clear hkc hst hk9 p0 p1 f1 f2 hsy hsy2 hkn hkb t0 t1 g4 yq HMMM
            go_upto_region 11 with fail
            cases kb
            · have hbad : ((rootT g kn).2 && (decide ((rootT g kn).1 = sy) && false)) = false := by simp
              refine LooseD.region_loose (fun w => Below wr.heap.size wr w) _ _ (by kernel_rfl) (by kernel_rfl)
                (LooseD.waits (D := [[], [], [], [], [], [], [], [], [], [], [], [], [], [], [], [], [], [], [], [], [], [], []]) (by kernel_rfl))
                (LooseD.stays (ts := [none, none, none, none, none, none, some (.is (.bool false)), none, none, none, none, none, none, none, none, none, none, none, none, none, none, none, none]) (fun w w' h b => h.trans (b.mono h.size)) (.none (.none (.none (.none (.none (.none (.is (.none (.none (.none (.none (.none (.none (.none (.none (.none (.none (.none (.none (.none (.none (.none (.none .nil))))))))))))))))))))))))
                (Below.refl _ _).drew ?_
              refine LooseD.reads (.agg #[.int .i64 g.start, .int .i64 g.rules, .slice An g.names.length cn, .slice At_ g.terms.length ct, .slice (some ⟨bP, 0, none⟩) g.prods.length cp]) rfl rfl ?_ ?_
              · intro w hw
                obtain ⟨z0, z1, z2, z3, z4, z5, z6, z7, z8⟩ := HMK.out w hw
                clear hw
                go_simp
              try simp only [Act.put, List.setIfInBounds_toArray, List.set_cons_zero, List.set_cons_succ]
              refine LooseD.reads (.pointer (some ⟨W.heap.size + 1, 1, none⟩)) rfl rfl ?_ ?_
              · intro w hw
                clear hw
                go_simp
              try simp only [Act.put, List.setIfInBounds_toArray, List.set_cons_zero, List.set_cons_succ]
              refine LooseD.reads (.slice (some ⟨r, 0, none⟩) ml cap) rfl rfl ?_ ?_
              · intro w hw
                obtain ⟨z0, z1, z2, z3, z4, z5, z6, z7, z8⟩ := HMK.out w hw
                clear hw
                go_simp
              try simp only [Act.put, List.setIfInBounds_toArray, List.set_cons_zero, List.set_cons_succ]
              refine LooseD.reads (.int .i64 j) rfl rfl ?_ ?_
              · intro w hw
                clear hw
                go_simp
              try simp only [Act.put, List.setIfInBounds_toArray, List.set_cons_zero, List.set_cons_succ]
              refine LooseD.reads (.pointer (some ⟨r, j * 2, none⟩)) rfl rfl ?_ ?_
              · intro w hw
                clear hw
                go_simp
              try simp only [Act.put, List.setIfInBounds_toArray, List.set_cons_zero, List.set_cons_succ]
              refine LooseD.reads (.agg #[.int .i64 kn, .slice kA km kc]) rfl rfl ?_ ?_
              · intro w hw
                obtain ⟨z0, z1, z2, z3, z4, z5, z6, z7, z8⟩ := HMK.out w hw
                clear hw
                go_simp
              try simp only [Act.put, List.setIfInBounds_toArray, List.set_cons_zero, List.set_cons_succ]
              refine LooseD.gives (.bool false) 12 #[.agg #[.int .i64 g.start, .int .i64 g.rules, .slice An g.names.length cn, .slice At_ g.terms.length ct, .slice (some ⟨bP, 0, none⟩) g.prods.length cp], .agg #[.int .i64 kn, .slice kA km kc]] rfl rfl ?_ (fun w hw _ => HKC.out w hw) ?_
              · intro w hw
                clear hw
                go_simp
              try simp only [Act.put, List.setIfInBounds_toArray, List.set_cons_zero, List.set_cons_succ]
              refine LooseD.reads (.bool true) rfl rfl ?_ ?_
              · intro w hw
                clear hw
                go_simp
              try simp only [Act.put, List.setIfInBounds_toArray, List.set_cons_zero, List.set_cons_succ]
              refine LooseD.reads (.bool true) rfl rfl ?_ ?_
              · intro w hw
                clear hw
                go_simp
              try simp only [Act.put, List.setIfInBounds_toArray, List.set_cons_zero, List.set_cons_succ]
              refine LooseD.unwanted rfl ?_
              try simp only [Act.put, List.setIfInBounds_toArray, List.set_cons_zero, List.set_cons_succ]
              refine LooseD.unwanted rfl ?_
              try simp only [Act.put, List.setIfInBounds_toArray, List.set_cons_zero, List.set_cons_succ]
              refine LooseD.unwanted rfl ?_
              try simp only [Act.put, List.setIfInBounds_toArray, List.set_cons_zero, List.set_cons_succ]
              refine LooseD.unwanted rfl ?_
              try simp only [Act.put, List.setIfInBounds_toArray, List.set_cons_zero, List.set_cons_succ]
              refine LooseD.unwanted rfl ?_
              try simp only [Act.put, List.setIfInBounds_toArray, List.set_cons_zero, List.set_cons_succ]
              refine LooseD.unwanted rfl ?_
              try simp only [Act.put, List.setIfInBounds_toArray, List.set_cons_zero, List.set_cons_succ]
              refine LooseD.unwanted rfl ?_
              try simp only [Act.put, List.setIfInBounds_toArray, List.set_cons_zero, List.set_cons_succ]
              refine LooseD.unwanted rfl ?_
              try simp only [Act.put, List.setIfInBounds_toArray, List.set_cons_zero, List.set_cons_succ]
              refine LooseD.unwanted rfl ?_
              try simp only [Act.put, List.setIfInBounds_toArray, List.set_cons_zero, List.set_cons_succ]
              refine LooseD.unwanted rfl ?_
              try simp only [Act.put, List.setIfInBounds_toArray, List.set_cons_zero, List.set_cons_succ]
              refine LooseD.unwanted rfl ?_
              try simp only [Act.put, List.setIfInBounds_toArray, List.set_cons_zero, List.set_cons_succ]
              refine LooseD.unwanted rfl ?_
              try simp only [Act.put, List.setIfInBounds_toArray, List.set_cons_zero, List.set_cons_succ]
              refine LooseD.unwanted rfl ?_
              try simp only [Act.put, List.setIfInBounds_toArray, List.set_cons_zero, List.set_cons_succ]
              refine LooseD.reads (.bool true) rfl rfl ?_ ?_
              · intro w hw
                clear hw
                go_simp
              try simp only [Act.put, List.setIfInBounds_toArray, List.set_cons_zero, List.set_cons_succ]
              refine LooseD.done ?_
              intro w7 hw7 hF
              have HB7 := Lib.hid (HBL.out.trans (hw7.mono HBL.out.size))
              clear hw7 hF
              have hR0 : F0 = false := by rw [HST.out, hbad]; rfl
              subst hR0
              go_wp2_with fail
              go_ret
              exact ⟨rfl, HB7.out⟩
            · have hr2 := hrt rfl
              obtain ⟨ri, hri⟩ : ∃ ri, ri = (rootT g kn).1 := ⟨_, rfl⟩
              have hro := fun (w : World) (bw : Below wr.heap.size wr w) => root_any g hf Q w _ (HPG.out.under (HBL.out.trans (bw.mono HBL.out.size))) kn hr2
              rw [← hri] at hro
              rw [← hri, hr2] at HST
              have HRO := Lib.hid hro
              clear hro hri hr2 hrt
              obtain ⟨ne, hne⟩ : ∃ ne, ne = (ri != sy) := ⟨_, rfl⟩
              have HNE := Lib.hid hne
              have hne2 : (ri != sy) = ne := hne.symm
              clear hne
              refine LooseD.region_loose (fun w => Below wr.heap.size wr w) _ _ (by kernel_rfl) (by kernel_rfl)
                (LooseD.waits (D := [[], [], [], [], [], [], [], [], [], [], [], [], [], [], [], [], [], [], [], [], [], [], []]) (by kernel_rfl))
                (LooseD.stays (ts := [none, none, none, none, none, none, some (.is (.bool true)), none, none, none, none, none, none, none, none, none, some (.is (.int .i64 ri)), none, none, none, none, none, none]) (fun w w' h b => h.trans (b.mono h.size)) (.none (.none (.none (.none (.none (.none (.is (.none (.none (.none (.none (.none (.none (.none (.none (.none (.is (.none (.none (.none (.none (.none (.none .nil))))))))))))))))))))))))
                (Below.refl _ _).drew ?_
              refine LooseD.reads (.agg #[.int .i64 g.start, .int .i64 g.rules, .slice An g.names.length cn, .slice At_ g.terms.length ct, .slice (some ⟨bP, 0, none⟩) g.prods.length cp]) rfl rfl ?_ ?_
              · intro w hw
                obtain ⟨z0, z1, z2, z3, z4, z5, z6, z7, z8⟩ := HMK.out w hw
                clear hw
                go_simp
              try simp only [Act.put, List.setIfInBounds_toArray, List.set_cons_zero, List.set_cons_succ]
              refine LooseD.reads (.pointer (some ⟨W.heap.size + 1, 1, none⟩)) rfl rfl ?_ ?_
              · intro w hw
                clear hw
                go_simp
              try simp only [Act.put, List.setIfInBounds_toArray, List.set_cons_zero, List.set_cons_succ]
              refine LooseD.reads (.slice (some ⟨r, 0, none⟩) ml cap) rfl rfl ?_ ?_
              · intro w hw
                obtain ⟨z0, z1, z2, z3, z4, z5, z6, z7, z8⟩ := HMK.out w hw
                clear hw
                go_simp
              try simp only [Act.put, List.setIfInBounds_toArray, List.set_cons_zero, List.set_cons_succ]
              refine LooseD.reads (.int .i64 j) rfl rfl ?_ ?_
              · intro w hw
                clear hw
                go_simp
              try simp only [Act.put, List.setIfInBounds_toArray, List.set_cons_zero, List.set_cons_succ]
              refine LooseD.reads (.pointer (some ⟨r, j * 2, none⟩)) rfl rfl ?_ ?_
              · intro w hw
                clear hw
                go_simp
              try simp only [Act.put, List.setIfInBounds_toArray, List.set_cons_zero, List.set_cons_succ]
              refine LooseD.reads (.agg #[.int .i64 kn, .slice kA km kc]) rfl rfl ?_ ?_
              · intro w hw
                obtain ⟨z0, z1, z2, z3, z4, z5, z6, z7, z8⟩ := HMK.out w hw
                clear hw
                go_simp
              try simp only [Act.put, List.setIfInBounds_toArray, List.set_cons_zero, List.set_cons_succ]
              refine LooseD.gives (.bool true) 12 #[.agg #[.int .i64 g.start, .int .i64 g.rules, .slice An g.names.length cn, .slice At_ g.terms.length ct, .slice (some ⟨bP, 0, none⟩) g.prods.length cp], .agg #[.int .i64 kn, .slice kA km kc]] rfl rfl ?_ (fun w hw _ => HKC.out w hw) ?_
              · intro w hw
                clear hw
                go_simp
              try simp only [Act.put, List.setIfInBounds_toArray, List.set_cons_zero, List.set_cons_succ]
              refine LooseD.reads (.bool false) rfl rfl ?_ ?_
              · intro w hw
                clear hw
                go_simp
              try simp only [Act.put, List.setIfInBounds_toArray, List.set_cons_zero, List.set_cons_succ]
              refine LooseD.reads (.bool false) rfl rfl ?_ ?_
              · intro w hw
                clear hw
                go_simp
              try simp only [Act.put, List.setIfInBounds_toArray, List.set_cons_zero, List.set_cons_succ]
              refine LooseD.reads (.agg #[.int .i64 g.start, .int .i64 g.rules, .slice An g.names.length cn, .slice At_ g.terms.length ct, .slice (some ⟨bP, 0, none⟩) g.prods.length cp]) rfl rfl ?_ ?_
              · intro w hw
                obtain ⟨z0, z1, z2, z3, z4, z5, z6, z7, z8⟩ := HMK.out w hw
                clear hw
                go_simp
              try simp only [Act.put, List.setIfInBounds_toArray, List.set_cons_zero, List.set_cons_succ]
              refine LooseD.reads (.pointer (some ⟨W.heap.size + 1, 1, none⟩)) rfl rfl ?_ ?_
              · intro w hw
                clear hw
                go_simp
              try simp only [Act.put, List.setIfInBounds_toArray, List.set_cons_zero, List.set_cons_succ]
              refine LooseD.reads (.slice (some ⟨r, 0, none⟩) ml cap) rfl rfl ?_ ?_
              · intro w hw
                obtain ⟨z0, z1, z2, z3, z4, z5, z6, z7, z8⟩ := HMK.out w hw
                clear hw
                go_simp
              try simp only [Act.put, List.setIfInBounds_toArray, List.set_cons_zero, List.set_cons_succ]
              refine LooseD.reads (.int .i64 j) rfl rfl ?_ ?_
              · intro w hw
                clear hw
                go_simp
              try simp only [Act.put, List.setIfInBounds_toArray, List.set_cons_zero, List.set_cons_succ]
              refine LooseD.reads (.pointer (some ⟨r, j * 2, none⟩)) rfl rfl ?_ ?_
              · intro w hw
                clear hw
                go_simp
              try simp only [Act.put, List.setIfInBounds_toArray, List.set_cons_zero, List.set_cons_succ]
              refine LooseD.reads (.pointer (some ⟨r, j * 2, none⟩)) rfl rfl ?_ ?_
              · intro w hw
                clear hw
                go_simp
              try simp only [Act.put, List.setIfInBounds_toArray, List.set_cons_zero, List.set_cons_succ]
              refine LooseD.reads (.int .i64 kn) rfl rfl ?_ ?_
              · intro w hw
                obtain ⟨z0, z1, z2, z3, z4, z5, z6, z7, z8⟩ := HMK.out w hw
                clear hw
                go_simp
              try simp only [Act.put, List.setIfInBounds_toArray, List.set_cons_zero, List.set_cons_succ]
              refine LooseD.gives (.int .i64 ri) 34 #[.agg #[.int .i64 g.start, .int .i64 g.rules, .slice An g.names.length cn, .slice At_ g.terms.length ct, .slice (some ⟨bP, 0, none⟩) g.prods.length cp], .int .i64 kn] rfl rfl ?_ (fun w hw _ => HRO.out w hw) ?_
              · intro w hw
                clear hw
                go_simp
              try simp only [Act.put, List.setIfInBounds_toArray, List.set_cons_zero, List.set_cons_succ]
              refine LooseD.reads (.slice (some ⟨b9, 0, none⟩) ml c9) rfl rfl ?_ ?_
              · intro w hw
                clear hw
                go_simp
              try simp only [Act.put, List.setIfInBounds_toArray, List.set_cons_zero, List.set_cons_succ]
              refine LooseD.reads (.int .i64 j) rfl rfl ?_ ?_
              · intro w hw
                clear hw
                go_simp
              try simp only [Act.put, List.setIfInBounds_toArray, List.set_cons_zero, List.set_cons_succ]
              refine LooseD.reads (.pointer (some ⟨b9, j, none⟩)) rfl rfl ?_ ?_
              · intro w hw
                clear hw
                go_simp
              try simp only [Act.put, List.setIfInBounds_toArray, List.set_cons_zero, List.set_cons_succ]
              refine LooseD.reads (.int .i64 sy) rfl rfl ?_ ?_
              · intro w hw
                obtain ⟨z0, z1, z2, z3, z4, z5, z6, z7, z8⟩ := HMK.out w hw
                clear hw
                go_simp
              try simp only [Act.put, List.setIfInBounds_toArray, List.set_cons_zero, List.set_cons_succ]
              refine LooseD.reads (.bool ne) rfl rfl ?_ ?_
              · intro w hw
                clear hw
                go_simp
              try simp only [Act.put, List.setIfInBounds_toArray, List.set_cons_zero, List.set_cons_succ]
              refine LooseD.reads (.bool ne) rfl rfl ?_ ?_
              · intro w hw
                clear hw
                go_simp
              try simp only [Act.put, List.setIfInBounds_toArray, List.set_cons_zero, List.set_cons_succ]
              refine LooseD.done ?_
              intro w7 hw7 hF
              have HB7 := Lib.hid (HBL.out.trans (hw7.mono HBL.out.size))
              have HBW := Lib.hid hw7
              clear hw7 hF
              cases ne
              · have he : ri = sy := by have := HNE.out; simpa using this.symm
                have hR1 : fitsL g (l.drop (j + 1)) (ys.drop (j + 1)) = F0 := by rw [HST.out, he]; simp
                have HR1 := Lib.hid hR1
                clear hR1 he
                go_wp2_with fail
                go_roundw
                case rel => exact ⟨j + 1, by omega, by go_num, HBV.out.trans (HBW.out.mono HBV.out.size), HR1.out⟩
                case measure => simp [intOf]; omega
              · have he : ¬ ri = sy := by have := HNE.out; simpa using this.symm
                have hR0 : F0 = false := by rw [HST.out]; simp [he]
                subst hR0
                go_wp2_with fail
                go_ret
                exact ⟨rfl, HB7.out⟩
          · have hje : j = ml := by omega
            subst hje
            have hjm2 : ¬ ((j : Nat) : Int) < ((j : Nat) : Int) := by omega
            have hR1 : F0 = true := by
              rw [← HE.out, List.drop_of_length_le (by rw [← HMM.out]; omega), List.drop_of_length_le (by rw [← HML.out]; omega), fitsL]
            subst hR1
            go_wp2_with fail
            go_ret
            exact ⟨rfl, HBL.out⟩
      · have e1 : ((ml : Int) != (m : Int)) = true := by rw [bne_iff_ne]; omega
        have hR0 : F0 = false := by rw [HF.out]; exact fitsL_len g l ys (by rw [← HMM.out, ← HML.out]; omega)
        subst hR0
        go_wp2_with fail
        go_ret
        exact ⟨rfl, HB1.out⟩
end Go.Proofs.Ytdknlifpoihnmaa.Tr

namespace Go.Proofs.Ytdknlifpoihnmaa.Tr
open Go.RowKit
open Gn (Asks)
open Fx (IntsAt StrsAt Prd PG PrdsAt PgAt)
open Oct (bs)
set_option maxRecDepth 100000
set_option linter.unusedSimpArgs false
set_option linter.unusedVariables false
theorem str_of {s : ByteArray} {l : List UInt8} (h : bs s = l) : s = ⟨l.toArray⟩ := by
  subst h
  cases s
  rfl
theorem bs_two (a b : ByteArray) : bs (a ++ b) = bs a ++ bs b := by simp [bs, ByteArray.data_append]
theorem fits_mem {g : PG} : ∀ {l : List Tr} {ss : List Int}, fitsL g l ss = true → ∀ (j : Nat) (h : j < l.length), fitsT g l[j] = true
  | [], _, _, j, h => absurd h (by simp)
  | a :: r, [], h, j, _ => by rw [fitsL] at h; cases h
  | a :: r, s :: ss, h, j, hj => by
    obtain ⟨_, h2, h3⟩ := fits_split h
    cases j with
    | zero => exact h2
    | succ j => exact fits_mem h3 j (by simpa using hj)
set_option maxHeartbeats 16000000 in
theorem rtext_any (g : PG) (hw : Wr g) (hnm : ∀ s ∈ g.names, s.size ≤ 200000) {t : Tr} (hs : SmT t) : fitsT g t = true → (textT g t).length ≤ 549755813888 → ∀ (P Q : Nat → Prop) (W : World) (x y v : Value), TrAt P W t x y → PgAt Q W g v → Calls Try.prog 13 #[v, .agg #[x, y]] W fun e w' => e = .returned (.string ⟨(textT g t).toArray⟩) ∧ Below W.heap.size W w' := by
  induction hs with
  | mk n l hlen hl ih =>
    intro hfit hsz P Q W x y v h hg
    obtain ⟨rfl, A, cap, r, a, b, rfl, hcap, hA, hc⟩ := h.open_
    obtain ⟨An, At_, Ap, cn, ct, cp, rfl, hN, hT, hP⟩ := hg.open_
    obtain ⟨m, hm⟩ : ∃ m, m = l.length := ⟨_, rfl⟩
    rw [← hm] at hA hcap hlen ⊢
    obtain ⟨V, hV⟩ : ∃ V, V = (W.alloc (.cells #[.int .i64 g.start, .int .i64 g.rules, .slice An g.names.length cn, .slice At_ g.terms.length ct, .slice Ap g.prods.length cp] 34)).alloc (.cells #[.int .i64 n, .slice A m cap] 43) := ⟨_, rfl⟩
    have hb0 : Below W.heap.size W V := by rw [hV]; exact ((Below.refl _ W).alloc (Nat.le_refl _) _).alloc (by simp) _
    have hx0 : V.heap[W.heap.size]? = some (.cells #[.int .i64 g.start, .int .i64 g.rules, .slice An g.names.length cn, .slice At_ g.terms.length ct, .slice Ap g.prods.length cp] 34 (0, 0)) := by rw [hV]; exact (heap_alloc_old _ _ (by simp)).trans (heap_alloc_new W _)
    have hx1 : V.heap[W.heap.size + 1]? = some (.cells #[.int .i64 n, .slice A m cap] 43 (0, 0)) := by
      rw [hV]; have := heap_alloc_new (W.alloc (.cells #[.int .i64 g.start, .int .i64 g.rules, .slice An g.names.length cn, .slice At_ g.terms.length ct, .slice Ap g.prods.length cp] 34)) (.cells #[.int .i64 n, .slice A m cap] 43); simpa using this
    have HMM := Lib.hid hm
    have HA := Lib.hid hA
    have HC := Lib.hid hc
    have HIH := Lib.hid ih
    have HV := Lib.hid hV
    have HB0 := Lib.hid hb0
    have HX0 := Lib.hid hx0
    have HX1 := Lib.hid hx1
    have HPG := Lib.hid hg
    obtain ⟨hrt, hfl⟩ := fits_at hfit
    have HFL := Lib.hid hfl
    have t0 := cell_of_row _ _ 0 _ _ (0, 0) hx1
    by_cases hneg : n < 0
    · obtain ⟨k, hk⟩ : ∃ k : Nat, n = -1 - (k : Int) := ⟨(-1 - n).toNat, by omega⟩
      have hkt : k < g.terms.length := by
        unfold rootT at hrt
        rw [if_pos hneg] at hrt
        have := of_decide_eq_true hrt
        omega
      have g3 := cell_of_row _ _ 3 _ _ (0, 0) hx0
      obtain ⟨A2, cap2, b2, e2, hcp2, hA2, hc2⟩ := hT
      injection e2 with e21 _ e23
      subst e21 e23
      obtain ⟨rfl, hbl, _⟩ := hA2 (by omega)
      have hcell := (hb0.cell (p := ⟨b2, k, none⟩) hbl).trans (hc2 k hkt)
      obtain ⟨tm, htm⟩ : ∃ tm, tm = g.terms[k] := ⟨_, rfl⟩
      rw [← htm] at hcell
      have htx : textT g (.mk n l) = quoT tm := by
        rw [textT, if_pos hneg, show (-1 - n).toNat = k by omega]
        unfold termT
        rw [List.getD, List.getElem?_eq_getElem hkt, htm]
        rfl
      have hts : tm.size ≤ 200000 := by rw [htm]; exact hw.term _ (List.getElem_mem hkt)
      have hfb := hw.fit.terms
      have hwr : IntKind.i64.wrap (-1 - n) = (k : Int) := by rw [show -1 - n = (k : Int) by omega]; exact IntWalk.i64_in _ (by omega)
      obtain ⟨lt, hlt⟩ : ∃ lt, lt = g.terms.length := ⟨_, rfl⟩
      rw [← hlt] at g3 hkt hfb
      rw [htx]
      have HQ := Lib.hid (fun w => Qt.rquote_any tm w hts)
      clear hA hc ih hl h hV hb0 hx0 hx1 hg hN hP hm hfit hsz hrt hfl hc2 hA2 htx htm hk hlt
      go_enter Try.func13, Try.ntmps13
      go_upto_region 1 with fail
      rw [← HV.out]
      go_wp2_with fail
      refine (HQ.out _).mono ?_
      rintro e w1 ⟨rfl, b1⟩
      go_wp2_with fail
      go_ret
      exact ⟨rfl, HB0.out.trans (b1.mono HB0.out.size)⟩
    · obtain ⟨kk, hkk⟩ : ∃ kk : Nat, n = (kk : Int) := ⟨n.toNat, by omega⟩
      subst hkk
      have hkp : kk < g.prods.length := by
        unfold rootT at hrt
        rw [if_neg hneg] at hrt
        split at hrt
        · rename_i h5; simpa using h5
        · cases hrt
      obtain ⟨A2, cap2, bP, fP, e2, hcp2, hA2, hc2⟩ := hP
      injection e2 with e21 _ e23
      subst e21 e23
      obtain ⟨rfl, hbl, _⟩ := hA2 (by omega)
      obtain ⟨q0, _, _⟩ := hc2 kk hkp
      obtain ⟨hlf1, hlf2⟩ := hw.left _ (List.getElem_mem hkp)
      obtain ⟨lk, hlk⟩ : ∃ lk : Nat, g.prods[kk].left = (lk : Int) := ⟨g.prods[kk].left.toNat, by omega⟩
      have hkn2 : lk < g.names.length := by omega
      rw [hlk] at q0
      obtain ⟨A3, cap3, b3, e3, hcp3, hA3, hc3⟩ := hN
      injection e3 with e31 _ e33
      subst e31 e33
      obtain ⟨rfl, hbl3, _⟩ := hA3 (by omega)
      have hq0 := (hb0.cell (p := ⟨bP, kk * 2, none⟩) hbl).trans q0
      obtain ⟨nm, hnmE⟩ : ∃ nm, nm = g.names[lk] := ⟨_, rfl⟩
      have hcn := (hb0.cell (p := ⟨b3, lk, none⟩) hbl3).trans (hc3 lk hkn2)
      rw [← hnmE] at hcn
      have hns : nm.size ≤ 200000 := by rw [hnmE]; exact hnm _ (List.getElem_mem hkn2)
      have htx : textT g (.mk (kk : Int) l) = 40 :: (bs nm ++ (textL g l ++ [41])) := by
        rw [textT, if_neg hneg]
        have e1 : leftT g (kk : Int) = (lk : Int) := by
          unfold leftT
          rw [show ((kk : Int)).toNat = kk by simp, List.getD, List.getElem?_eq_getElem hkp]
          exact hlk
        unfold nameT
        rw [e1, show ((lk : Int)).toNat = lk by simp, List.getD, List.getElem?_eq_getElem hkn2, hnmE]
        rfl
      rw [htx] at hsz ⊢
      have hcz : ¬ 9223372036854775807 < 1 + nm.size := by omega
      have hfp := hw.fit.prods
      have hfn := hw.names
      have HSZ := Lib.hid (show (textL g l).length ≤ 549755813888 by simp at hsz; omega)
      obtain ⟨lp, hlp⟩ : ∃ lp, lp = g.prods.length := ⟨_, rfl⟩
      obtain ⟨ln, hln⟩ : ∃ ln, ln = g.names.length := ⟨_, rfl⟩
      have g2 := cell_of_row _ _ 2 _ _ (0, 0) hx0
      have g4 := cell_of_row _ _ 4 _ _ (0, 0) hx0
      rw [← hlp] at g4 hkp hfp
      rw [← hln] at g2 hkn2 hfn
      have HLP := Lib.hid hlp
      have HLN := Lib.hid hln
      clear hA hc ih hl h hV hb0 hx0 hx1 hg hT hm hfit hsz hrt hfl hc2 hA2 htx hA3 hc3 hlk q0 hlp hln hnmE hlf1 hlf2
      go_enter Try.func13, Try.ntmps13
      go_upto_region 1 with fail
      rw [← HV.out]
      go_upto_region 3 with fail
      go_quiet (fail)
      obtain ⟨s0, hs0⟩ : ∃ s0 : ByteArray, s0 = ⟨#[40]⟩ ++ nm := ⟨_, rfl⟩
      have HS0 := Lib.hid (show bs s0 = 40 :: bs nm by rw [hs0, bs_two]; rfl)
      try rw [← hs0]
      clear g2 g4 t0 hq0 hcn hs0
      have HBQ := Lib.hid (Gn.below_drewN HB0.out nq)
      have HY0 := Lib.hid (show (V.drewN nq).heap[W.heap.size]? = _ from HX0.out)
      have HY1 := Lib.hid (show (V.drewN nq).heap[W.heap.size + 1]? = _ from HX1.out)
      obtain ⟨V3, hV3⟩ : ∃ V3, V3 = V.drewN nq := ⟨_, rfl⟩
      rw [← hV3] at HBQ HY0 HY1 ⊢
      clear hV3
      go_wp2_with fail
      go_loopw [5, 6] (fun u i wr => ∃ (j : Nat) (s : ByteArray), j ≤ m ∧ bs s = 40 :: (bs nm ++ textL g (l.take j)) ∧ u = .string s ∧ i = .int .i64 j ∧ Below V3.heap.size V3 wr) (fun _ i _ => m - (intOf i).toNat)
      case atStart => exact ⟨0, s0, Nat.zero_le _, by rw [List.take_zero, textL, List.append_nil]; exact HS0.out, rfl, rfl, Below.refl _ _⟩
      case round =>
        obtain ⟨j, s, hj, hs, rfl, rfl, hbel⟩ := hrel
        have HBV := Lib.hid hbel
        have HBL := Lib.hid (HBQ.out.trans (hbel.mono HBQ.out.size))
        have HS := Lib.hid hs
        have z1 := cell_of_row _ _ 1 _ _ (0, 0) ((hbel.block _ (Gn.heap_lt HY1.out)).trans HY1.out)
        have hle := textL_le g l j
        have hss : s.size ≤ 549755813888 + 200001 := by
          have h1 : s.size = (bs s).length := rfl
          have h2 : (bs nm).length = nm.size := rfl
          have := HSZ.out
          rw [h1, hs]
          simp
          omega
        clear hbel hs hle
        by_cases hjm : j < m
        · have hjm2 : (j : Int) < (m : Int) := by omega
          have hjl : j < l.length := by rw [← HMM.out]; exact hjm
          obtain ⟨eA, hr, hPr⟩ := HA.out (by omega)
          subst eA
          obtain ⟨⟨p0, p1⟩, hk9⟩ := HC.out j hjl
          obtain ⟨kn, kA, km, kc, f1, f2⟩ := hk9.form
          rw [f1] at p0
          rw [f2] at p1
          rw [f1, f2] at hk9
          have HMK := Lib.hid (fun (w : World) (bw : Below wr.heap.size wr w) => (show w.cell? ⟨W.heap.size, 0, none⟩ = some (.int .i64 g.start) ∧ w.cell? ⟨W.heap.size, 1, none⟩ = some (.int .i64 g.rules) ∧ w.cell? ⟨W.heap.size, 2, none⟩ = some (.slice (some ⟨b3, 0, none⟩) g.names.length cn) ∧ w.cell? ⟨W.heap.size, 3, none⟩ = some (.slice At_ g.terms.length ct) ∧ w.cell? ⟨W.heap.size, 4, none⟩ = some (.slice (some ⟨bP, 0, none⟩) g.prods.length cp) ∧ w.cell? ⟨W.heap.size + 1, 1, none⟩ = some (.slice (some ⟨r, 0, none⟩) m cap) ∧ w.cell? ⟨r, j * 2, none⟩ = some (.int .i64 kn) ∧ w.cell? ⟨r, j * 2 + 1, none⟩ = some (.slice kA km kc) from (by
            have bt := HBL.out.trans (bw.mono HBL.out.size)
            have bv := HBV.out.trans (bw.mono HBV.out.size)
            have hx0 := (bv.block _ (Gn.heap_lt HY0.out)).trans HY0.out
            have hx1 := (bv.block _ (Gn.heap_lt HY1.out)).trans HY1.out
            exact ⟨cell_of_row _ _ 0 _ _ (0, 0) hx0, cell_of_row _ _ 1 _ _ (0, 0) hx0, cell_of_row _ _ 2 _ _ (0, 0) hx0, cell_of_row _ _ 3 _ _ (0, 0) hx0, cell_of_row _ _ 4 _ _ (0, 0) hx0, cell_of_row _ _ 1 _ _ (0, 0) hx1, (bt.cell (p := ⟨r, j * 2, none⟩) hr).trans p0, (bt.cell (p := ⟨r, j * 2 + 1, none⟩) hr).trans p1⟩)))
          have hfk : fitsT g l[j] = true := fits_mem HFL.out j hjl
          have htk := textL_take g l j hjl
          have hlk2 := textL_le g l (j + 1)
          have hzl : (textT g l[j]).length ≤ 549755813888 := by
            rw [htk] at hlk2
            have := HSZ.out
            simp at hlk2
            omega
          have hkc := fun (w : World) (bw : Below wr.heap.size wr w) => HIH.out l[j] (List.getElem_mem hjl) hfk hzl P Q w _ _ _ (hk9.under (HBL.out.trans (bw.mono HBL.out.size))) (HPG.out.under (HBL.out.trans (bw.mono HBL.out.size)))
          obtain ⟨Z, hZ⟩ : ∃ Z : ByteArray, Z = ⟨(textT g l[j]).toArray⟩ := ⟨_, rfl⟩
          rw [← hZ] at hkc
          have HKC := Lib.hid hkc
          have HZ := Lib.hid (show bs Z = textT g l[j] by rw [hZ])
          have hZs : Z.size ≤ 549755813888 := by
            have h1 : Z.size = (bs Z).length := rfl
            rw [h1, HZ.out]
            exact hzl
          have HTK := Lib.hid htk
          have hc1 : ¬ 9223372036854775807 < 1 + Z.size := by omega
          have hc2 : ¬ 9223372036854775807 < s.size + (1 + Z.size) := by omega
          clear hk9 p0 p1 f1 f2 hkc hZ hfk htk hlk2 hzl
          go_upto_region 7 with fail
          refine LooseD.region_loose (fun w => Below wr.heap.size wr w) _ _ (by kernel_rfl) (by kernel_rfl)
            (LooseD.waits (D := [[], [], [], [], [], [], [], [], [], [], []]) (by kernel_rfl))
            (LooseD.stays (ts := [none, none, none, none, none, none, none, some (.is (.string Z)), none, none, none]) (fun w w' h b => h.trans (b.mono h.size)) (.none (.none (.none (.none (.none (.none (.none (.is (.none (.none (.none .nil))))))))))))
            (Below.refl _ _).drew ?_
          refine LooseD.reads (.string s) rfl rfl ?_ ?_
          · intro w hw
            clear hw
            go_simp
          try simp only [Act.put, List.setIfInBounds_toArray, List.set_cons_zero, List.set_cons_succ]
          refine LooseD.reads (.agg #[.int .i64 g.start, .int .i64 g.rules, .slice (some ⟨b3, 0, none⟩) g.names.length cn, .slice At_ g.terms.length ct, .slice (some ⟨bP, 0, none⟩) g.prods.length cp]) rfl rfl ?_ ?_
          · intro w hw
            obtain ⟨z0, z1, z2, z3, z4, z5, z6, z7⟩ := HMK.out w hw
            clear hw
            go_simp
          try simp only [Act.put, List.setIfInBounds_toArray, List.set_cons_zero, List.set_cons_succ]
          refine LooseD.reads (.pointer (some ⟨W.heap.size + 1, 1, none⟩)) rfl rfl ?_ ?_
          · intro w hw
            clear hw
            go_simp
          try simp only [Act.put, List.setIfInBounds_toArray, List.set_cons_zero, List.set_cons_succ]
          refine LooseD.reads (.slice (some ⟨r, 0, none⟩) m cap) rfl rfl ?_ ?_
          · intro w hw
            obtain ⟨z0, z1, z2, z3, z4, z5, z6, z7⟩ := HMK.out w hw
            clear hw
            go_simp
          try simp only [Act.put, List.setIfInBounds_toArray, List.set_cons_zero, List.set_cons_succ]
          refine LooseD.reads (.int .i64 j) rfl rfl ?_ ?_
          · intro w hw
            clear hw
            go_simp
          try simp only [Act.put, List.setIfInBounds_toArray, List.set_cons_zero, List.set_cons_succ]
          refine LooseD.reads (.pointer (some ⟨r, j * 2, none⟩)) rfl rfl ?_ ?_
          · intro w hw
            clear hw
            go_simp
          try simp only [Act.put, List.setIfInBounds_toArray, List.set_cons_zero, List.set_cons_succ]
          refine LooseD.reads (.agg #[.int .i64 kn, .slice kA km kc]) rfl rfl ?_ ?_
          · intro w hw
            obtain ⟨z0, z1, z2, z3, z4, z5, z6, z7⟩ := HMK.out w hw
            clear hw
            go_simp
          try simp only [Act.put, List.setIfInBounds_toArray, List.set_cons_zero, List.set_cons_succ]
          refine LooseD.gives (.string Z) 13 #[.agg #[.int .i64 g.start, .int .i64 g.rules, .slice (some ⟨b3, 0, none⟩) g.names.length cn, .slice At_ g.terms.length ct, .slice (some ⟨bP, 0, none⟩) g.prods.length cp], .agg #[.int .i64 kn, .slice kA km kc]] rfl rfl ?_ (fun w hw _ => HKC.out w hw) ?_
          · intro w hw
            clear hw
            go_simp
          try simp only [Act.put, List.setIfInBounds_toArray, List.set_cons_zero, List.set_cons_succ]
          refine LooseD.reads (.string (⟨#[32]⟩ ++ Z)) rfl rfl ?_ ?_
          · intro w hw
            clear hw
            go_simp
          try simp only [Act.put, List.setIfInBounds_toArray, List.set_cons_zero, List.set_cons_succ]
          refine LooseD.reads (.string (s ++ (⟨#[32]⟩ ++ Z))) rfl rfl ?_ ?_
          · intro w hw
            clear hw
            go_simp
          try simp only [Act.put, List.setIfInBounds_toArray, List.set_cons_zero, List.set_cons_succ]
          refine LooseD.reads (.string (s ++ (⟨#[32]⟩ ++ Z))) rfl rfl ?_ ?_
          · intro w hw
            clear hw
            go_simp
          try simp only [Act.put, List.setIfInBounds_toArray, List.set_cons_zero, List.set_cons_succ]
          refine LooseD.done ?_
          intro w7 hw7 hF
          have HB7 := Lib.hid (HBL.out.trans (hw7.mono HBL.out.size))
          have HBW := Lib.hid hw7
          clear hw7 hF
          go_wp2_with fail
          go_roundw
          case rel => exact ⟨j + 1, s ++ (⟨#[32]⟩ ++ Z), by omega, by rw [bs_two, bs_two, HS.out, HZ.out, HTK.out]; simp [bs], rfl, by go_num, HBV.out.trans (HBW.out.mono HBV.out.size)⟩
          case measure => simp [intOf]; omega
        · have hje : j = m := by omega
          subst hje
          have hjm2 : ¬ ((j : Nat) : Int) < ((j : Nat) : Int) := by omega
          have hc3 : ¬ 9223372036854775807 < s.size + 1 := by omega
          have HE := Lib.hid (show s ++ ⟨#[41]⟩ = (⟨(40 :: (bs nm ++ (textL g l ++ [41]))).toArray⟩ : ByteArray) from str_of (by rw [bs_two, HS.out, HMM.out, List.take_length]; simp [bs]))
          go_wp2_with fail
          go_ret
          refine ⟨?_, HBL.out⟩
          rw [← HE.out]
          rfl
end Go.Proofs.Ytdknlifpoihnmaa.Tr
