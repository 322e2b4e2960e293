/-
  Layer 14: the document's Same.
-/
import Derived.Test.YtdknlifpoihnmaaTrTo
namespace Go.Proofs.Ytdknlifpoihnmaa.Tr
open Go.RowKit
open Gn (Asks)
open Fx (IntsAt Prd PG own_of_block own_base)
set_option maxRecDepth 100000
set_option linter.unusedSimpArgs false
set_option linter.unusedVariables false

/-- The document's Same answers as it should of this tree. -/
def RSameCtr (t : Tr) : Prop := ∀ (u : Tr) (P Q : Nat → Prop) (W : World) (x y x' y' : Value), TrAt P W t x y → TrAt Q W u x' y' → Calls Try.prog 17 #[.agg #[x, y], .agg #[x', y']] W (Asks (sameT t u) W)
set_option maxHeartbeats 8000000 in
theorem rsamet_any {t : Tr} (hs : SmT t) : RSameCtr t := by
  induction hs with
  | mk n l hlen hl ih =>
    intro u P Q W x y x' y' h h'
    obtain ⟨m, kk⟩ := u
    obtain ⟨rfl, hk⟩ := h.open_
    obtain ⟨rfl, hk'⟩ := h'.open_
    obtain ⟨V, hV⟩ : ∃ V, V = (W.alloc (.cells #[.int .i64 n, y] 43)).alloc (.cells #[.int .i64 m, y'] 43) := ⟨_, rfl⟩
    have hb0 : Below W.heap.size W V := by rw [hV]; exact ((Below.refl _ W).alloc (Nat.le_refl _) _).alloc (by simp) _
    have hx0 : V.heap[W.heap.size]? = some (.cells #[.int .i64 n, y] 43 (0, 0)) := by rw [hV]; exact (heap_alloc_old _ _ (by simp)).trans (heap_alloc_new W _)
    have hx1 : V.heap[W.heap.size + 1]? = some (.cells #[.int .i64 m, y'] 43 (0, 0)) := by
      rw [hV]; have := heap_alloc_new (W.alloc (.cells #[.int .i64 n, y] 43)) (.cells #[.int .i64 m, y'] 43); simpa using this
    have hVz : V.heap.size = W.heap.size + 2 := by rw [hV]; simp
    obtain ⟨A, cap, r, a, b, rfl, hcap, h3, h4⟩ := hk
    obtain ⟨A', cap', r', a', b', rfl, hcap', h3', h4'⟩ := hk'
    obtain ⟨ll, hll⟩ : ∃ ll, ll = l.length := ⟨_, rfl⟩
    obtain ⟨kl, hkl⟩ : ∃ kl, kl = kk.length := ⟨_, rfl⟩
    rw [← hll] at hx0 hV hlen hcap h3 ⊢
    rw [← hkl] at hx1 hV hcap' h3' ⊢
    have HLL := Lib.hid hll
    have HKL := Lib.hid hkl
    have H3 := Lib.hid h3
    have H4 := Lib.hid h4
    have H3' := Lib.hid h3'
    have H4' := Lib.hid h4'
    have HIH := Lib.hid ih
    have HV := Lib.hid hV
    have HVZ := Lib.hid hVz
    have HB0 := Lib.hid hb0
    have HX0 := Lib.hid hx0
    have HX1 := Lib.hid hx1
    have q0 := cell_of_row _ _ 0 _ _ (0, 0) hx0
    have q1 := cell_of_row _ _ 1 _ _ (0, 0) hx0
    have r0 := cell_of_row _ _ 0 _ _ (0, 0) hx1
    have r1 := cell_of_row _ _ 1 _ _ (0, 0) hx1
    have HRR := Lib.hid (show sameT (.mk n l) (.mk m kk) = (decide (n = m) && sameL l kk) by rw [sameT])
    rw [HRR.out]
    obtain ⟨R, hR⟩ : ∃ R, R = sameL l kk := ⟨_, rfl⟩
    rw [← hR]
    have HR := Lib.hid hR
    clear h h' hll hkl h3 h4 h3' h4' ih hl hV hVz hb0 hx0 hx1 HRR hR
    by_cases hnm : n = m
    · subst hnm
      have e1 : (n != n) = false := by simp
      by_cases hlk : ll = kl
      · subst hlk
        have e2 : ((ll : Int) != (ll : Int)) = false := by simp
        go_enter Try.func17, Try.ntmps17
        go_upto_region 1 with fail
        rw [← HV.out]
        go_wp2_with fail
        go_loopw [5] (fun i wr => ∃ j : Nat, j ≤ ll ∧ i = .int .i64 j ∧ Below V.heap.size V wr ∧ sameL (l.drop j) (kk.drop j) = R) (fun i _ => ll - (intOf i).toNat)
        case atStart => exact ⟨0, Nat.zero_le _, rfl, Below.refl _ _, HR.out.symm⟩
        case round =>
          obtain ⟨j, hj, rfl, hbel, hE⟩ := hrel
          have HBV := Lib.hid hbel
          have HBL := Lib.hid (HB0.out.trans (hbel.mono HB0.out.size))
          have HE := Lib.hid hE
          have hz := hbel.size
          have s1 := (hbel.cell (p := ⟨W.heap.size, 1, none⟩) (Gn.heap_lt HX0.out)).trans q1
          have s2 := (hbel.cell (p := ⟨W.heap.size + 1, 1, none⟩) (Gn.heap_lt HX1.out)).trans r1
          clear hE hbel
          by_cases hjl : j < ll
          · have hjl2 : (j : Int) < (ll : Int) := by omega
            have h1 : j < l.length := by rw [← HLL.out]; exact hjl
            have h2 : j < kk.length := by rw [← HKL.out]; exact hjl
            obtain ⟨eA, hr, _⟩ := H3.out (by omega)
            obtain ⟨eA', hr', _⟩ := H3'.out (by omega)
            subst eA
            subst eA'
            obtain ⟨⟨x0, x1⟩, hnd⟩ := H4.out j h1
            obtain ⟨⟨y0, y1⟩, hnd'⟩ := H4'.out j h2
            obtain ⟨ka, Aa, na, ca, ea, ec⟩ := hnd.form
            obtain ⟨kb, Ab, nb, cb, ea', ec'⟩ := hnd'.form
            rw [ea] at x0 hnd; rw [ec] at x1 hnd
            rw [ea'] at y0 hnd'; rw [ec'] at y1 hnd'
            have HMK := Lib.hid (fun (w' : World) (b : Below wr.heap.size wr w') => show (fun w' : World => w'.cell? ⟨W.heap.size, 1, none⟩ = some (.slice (some ⟨r, 0, none⟩) ll cap) ∧ w'.cell? ⟨W.heap.size + 1, 1, none⟩ = some (.slice (some ⟨r', 0, none⟩) ll cap') ∧ w'.cell? ⟨r, j * 2, none⟩ = some (.int .i64 ka) ∧ w'.cell? ⟨r, j * 2 + 1, none⟩ = some (.slice Aa na ca) ∧ w'.cell? ⟨r', j * 2, none⟩ = some (.int .i64 kb) ∧ w'.cell? ⟨r', j * 2 + 1, none⟩ = some (.slice Ab nb cb)) w' from
              ⟨(b.cell (p := ⟨W.heap.size, 1, none⟩) (by show W.heap.size < _; have := HVZ.out; omega)).trans s1, (b.cell (p := ⟨W.heap.size + 1, 1, none⟩) (by show W.heap.size + 1 < _; have := HVZ.out; omega)).trans s2,
               ((HBL.out.trans (b.mono HBL.out.size)).cell (p := ⟨r, j * 2, none⟩) hr).trans x0, ((HBL.out.trans (b.mono HBL.out.size)).cell (p := ⟨r, j * 2 + 1, none⟩) hr).trans x1,
               ((HBL.out.trans (b.mono HBL.out.size)).cell (p := ⟨r', j * 2, none⟩) hr').trans y0, ((HBL.out.trans (b.mono HBL.out.size)).cell (p := ⟨r', j * 2 + 1, none⟩) hr').trans y1⟩)
            have HKC := Lib.hid (fun (X : World) (hX : Below wr.heap.size wr X) => (HIH.out l[j] (List.getElem_mem h1) kk[j] P Q X _ _ _ _ (hnd.under (HBL.out.trans (hX.mono HBL.out.size))) (hnd'.under (HBL.out.trans (hX.mono HBL.out.size)))).mono fun e w' h => show e = .returned (.bool (sameT l[j] kk[j])) ∧ Below wr.heap.size wr w' from ⟨h.1, hX.trans (h.2.mono hX.size)⟩)
            have HST := Lib.hid (show R = (sameT l[j] kk[j] && sameL (l.drop (j + 1)) (kk.drop (j + 1))) from HE.out.symm.trans (sameL_step l kk j h1 h2))
            clear hnd hnd' x0 x1 y0 y1 ea ec ea' ec' q0 q1 r0 r1
            go_upto_region 6 with fail
            refine wp_region_noPanic ?_
            refine wp_region_held_drew (S := (fun w' : World => w'.cell? ⟨W.heap.size, 1, none⟩ = some (.slice (some ⟨r, 0, none⟩) ll cap) ∧ w'.cell? ⟨W.heap.size + 1, 1, none⟩ = some (.slice (some ⟨r', 0, none⟩) ll cap') ∧ w'.cell? ⟨r, j * 2, none⟩ = some (.int .i64 ka) ∧ w'.cell? ⟨r, j * 2 + 1, none⟩ = some (.slice Aa na ca) ∧ w'.cell? ⟨r', j * 2, none⟩ = some (.int .i64 kb) ∧ w'.cell? ⟨r', j * 2 + 1, none⟩ = some (.slice Ab nb cb))) (by kernel_rfl) ?_ (fun hHeld => ?_)
            · exact HMK.out _ (Gn.below_drew (Below.refl _ _))
            refine wpAnyH_take (i := 0) (v := ?_) rfl (by kernel_rfl) (by kernel_rfl) (by kernel_rfl) (fun _ _ _ h => h) (Or.inl ⟨by rfl, ?_⟩) (by assumption) ?_
            rotate_left
            · intro w hSw
              try dsimp only at hSw
              go_simp
              try with_reducible rfl
            try simp only [Act.put, List.setIfInBounds_toArray, List.set_cons_zero, List.set_cons_succ]
            refine wpAnyH_take (i := 1) (v := ?_) rfl (by kernel_rfl) (by kernel_rfl) (by kernel_rfl) (fun _ _ _ h => h) (Or.inl ⟨by rfl, ?_⟩) (by assumption) ?_
            rotate_left
            · intro w hSw
              try dsimp only at hSw
              go_simp
              try with_reducible rfl
            try simp only [Act.put, List.setIfInBounds_toArray, List.set_cons_zero, List.set_cons_succ]
            refine wpAnyH_take (i := 2) (v := ?_) rfl (by kernel_rfl) (by kernel_rfl) (by kernel_rfl) (fun _ _ _ h => h) (Or.inl ⟨by rfl, ?_⟩) (by assumption) ?_
            rotate_left
            · intro w hSw
              try dsimp only at hSw
              go_simp
              try with_reducible rfl
            try simp only [Act.put, List.setIfInBounds_toArray, List.set_cons_zero, List.set_cons_succ]
            refine wpAnyH_take (i := 3) (v := ?_) rfl (by kernel_rfl) (by kernel_rfl) (by kernel_rfl) (fun _ _ _ h => h) (Or.inl ⟨by rfl, ?_⟩) (by assumption) ?_
            rotate_left
            · intro w hSw
              try dsimp only at hSw
              go_simp
              try with_reducible rfl
            try simp only [Act.put, List.setIfInBounds_toArray, List.set_cons_zero, List.set_cons_succ]
            refine wpAnyH_take (i := 4) (v := ?_) rfl (by kernel_rfl) (by kernel_rfl) (by kernel_rfl) (fun _ _ _ h => h) (Or.inl ⟨by rfl, ?_⟩) (by assumption) ?_
            rotate_left
            · intro w hSw
              try dsimp only at hSw
              go_simp
              try with_reducible rfl
            try simp only [Act.put, List.setIfInBounds_toArray, List.set_cons_zero, List.set_cons_succ]
            refine wpAnyH_take (i := 5) (v := ?_) rfl (by kernel_rfl) (by kernel_rfl) (by kernel_rfl) (fun _ _ _ h => h) (Or.inl ⟨by rfl, ?_⟩) (by assumption) ?_
            rotate_left
            · intro w hSw
              try dsimp only at hSw
              go_simp
              try with_reducible rfl
            try simp only [Act.put, List.setIfInBounds_toArray, List.set_cons_zero, List.set_cons_succ]
            refine wpAnyH_take (i := 6) (v := ?_) rfl (by kernel_rfl) (by kernel_rfl) (by kernel_rfl) (fun _ _ _ h => h) (Or.inl ⟨by rfl, ?_⟩) (by assumption) ?_
            rotate_left
            · intro w hSw
              try dsimp only at hSw
              go_simp
              try with_reducible rfl
            try simp only [Act.put, List.setIfInBounds_toArray, List.set_cons_zero, List.set_cons_succ]
            refine wpAnyH_take (i := 7) (v := ?_) rfl (by kernel_rfl) (by kernel_rfl) (by kernel_rfl) (fun _ _ _ h => h) (Or.inl ⟨by rfl, ?_⟩) (by assumption) ?_
            rotate_left
            · intro w hSw
              try dsimp only at hSw
              go_simp
              try with_reducible rfl
            try simp only [Act.put, List.setIfInBounds_toArray, List.set_cons_zero, List.set_cons_succ]
            refine wpAnyH_take (i := 8) (v := ?_) rfl (by kernel_rfl) (by kernel_rfl) (by kernel_rfl) (fun _ _ _ h => h) (Or.inl ⟨by rfl, ?_⟩) (by assumption) ?_
            rotate_left
            · intro w hSw
              try dsimp only at hSw
              go_simp
              try with_reducible rfl
            try simp only [Act.put, List.setIfInBounds_toArray, List.set_cons_zero, List.set_cons_succ]
            refine wpAnyH_take (i := 9) (v := ?_) rfl (by kernel_rfl) (by kernel_rfl) (by kernel_rfl) (fun _ _ _ h => h) (Or.inl ⟨by rfl, ?_⟩) (by assumption) ?_
            rotate_left
            · intro w hSw
              try dsimp only at hSw
              go_simp
              try with_reducible rfl
            try simp only [Act.put, List.setIfInBounds_toArray, List.set_cons_zero, List.set_cons_succ]
            refine wpAnyH_ready (rs := [10]) (by kernel_rfl) (by simp) ?_
            refine AllReadyH.cons rfl (fun K hK => ?_) AllReadyH.nil
            go_simp
            go_at_call 17
            refine (HKC.out _ (by first | exact Gn.below_drew (Below.refl _ _))).mono ?_
            rintro e w5 ⟨rfl, hb5⟩
            have HB5 := Lib.hid hb5
            clear hb5
            refine hK.out _ _ (HMK.out _ HB5.out) (fun hHeld => ?_)
            clear hK K
            try simp only [Act.put, List.setIfInBounds_toArray, List.set_cons_zero, List.set_cons_succ]
            refine wpAnyH_ready (rs := [11]) (by kernel_rfl) (by simp) ?_
            refine AllReadyH.cons rfl (fun K hK => ?_) AllReadyH.nil
            go_simp
            refine hK.out _ _ (hHeld) (fun hHeld => ?_)
            clear hK K
            try simp only [Act.put, List.setIfInBounds_toArray, List.set_cons_zero, List.set_cons_succ]
            refine wpAnyH_done (by kernel_rfl) ?_ _
            refine NoPanic.normal ?_
            have HB6 := Lib.hid (HBL.out.trans (HB5.out.mono HBL.out.size))
            obtain ⟨sq, hsq⟩ : ∃ sq, sq = sameT l[j] kk[j] := ⟨_, rfl⟩
            rw [← hsq]
            have HSQ := Lib.hid hsq
            clear hsq
            cases sq
            · have hR0 : R = false := by rw [HST.out, ← HSQ.out]; rfl
              subst hR0
              go_wp2
              go_ret
              exact ⟨rfl, HB6.out⟩
            · have hR1 : sameL (l.drop (j + 1)) (kk.drop (j + 1)) = R := by rw [HST.out, ← HSQ.out]; rfl
              have HR1 := Lib.hid hR1
              clear hR1
              go_wp2
              go_roundw
              case rel => exact ⟨j + 1, by omega, by go_num, HBV.out.trans (HB5.out.mono HBV.out.size), HR1.out⟩
              case measure => simp [intOf]; omega
          · have hje : j = ll := by omega
            subst hje
            have hjl2 : ¬ ((j : Nat) : Int) < ((j : Nat) : Int) := by omega
            have hR1 : R = true := by rw [← HE.out]; exact sameL_end l kk j (by rw [← HLL.out]; omega) (by rw [← HKL.out]; omega)
            subst hR1
            go_wp2_with fail
            go_ret
            exact ⟨by simp, HBL.out⟩
      · have e2 : ((ll : Int) != (kl : Int)) = true := by rw [bne_iff_ne]; omega
        have hR0 : R = false := by rw [HR.out]; exact sameL_len l kk (by rw [← HLL.out, ← HKL.out]; exact hlk)
        subst hR0
        go_enter Try.func17, Try.ntmps17
        go_upto_region 1 with fail
        rw [← HV.out]
        go_wp2_with fail
        go_ret
        exact ⟨by simp, HB0.out⟩
    · have e1 : (n != m) = true := by rw [bne_iff_ne]; exact hnm
      have e3 : decide (n = m) = false := decide_eq_false hnm
      go_enter Try.func17, Try.ntmps17
      go_upto_region 1 with fail
      rw [← HV.out]
      go_wp2_with fail
      go_ret
      exact ⟨by simp [hnm], HB0.out⟩
end Go.Proofs.Ytdknlifpoihnmaa.Tr
