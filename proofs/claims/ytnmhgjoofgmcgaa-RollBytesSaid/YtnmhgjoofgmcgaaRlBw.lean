/-
  Layer 18: RollBytes walked.
-/
import Derived.Test.YtnmhgjoofgmcgaaRlDGet
import Derived.Test.YtnmhgjoofgmcgaaRlTd
import Derived.Test.YtnmhgjoofgmcgaaRlSpeaks
namespace Go.Proofs.Ytnmhgjoofgmcgaa.Rl
open Go.RowKit
open Fx (StrsAt)
open Oct (bs)
set_option maxRecDepth 100000
set_option linter.unusedSimpArgs false
set_option linter.unusedVariables false
theorem error_pos {s : List UInt8} {c : Nat} (h : getR s = .error c) : c ≠ 0 := by
  have z0 : Oct.NZ (.ok s) := fun h => by cases h
  unfold getR getM9 at h
  have z1 := Oct.rInt_nz z0
  generalize Oct.rInt (.ok s) = q1 at h z1
  split at h
  · injection h with h; omega
  · have z2 := rMs_nz z1 q1.1.toNat
    generalize rMs q1.2 q1.1.toNat = q2 at h z2
    unfold getC9 at h
    have z3 := Oct.rInt_nz z2
    generalize Oct.rInt q2.2 = q3 at h z3
    split at h
    · injection h with h; omega
    · have z4 := rCs_nz z3 q3.1.toNat
      generalize rCs q3.2 q3.1.toNat = q4 at h z4
      unfold getD9 at h
      split at h
      · injection h with h; omega
      · split at h
        · injection h with h; omega
        · split at h
          · injection h with h; omega
          · cases h
theorem get_small (s : List UInt8) (hs : s.length ≤ 2000) : (qPut (rolOf (getR s))).length ≤ BIG ∧ (rolOf (getR s)).ms.length ≤ 4096 ∧ (rolOf (getR s)).cs.length ≤ 4096 ∧ ∀ c ∈ (rolOf (getR s)).cs, c.studs.length ≤ 4096 := by
  cases h : getR s with
  | error c =>
    have h1 : (qPut (rolOf (.error c))).length ≤ BIG := by show (qPut ⟨[], []⟩).length ≤ BIG; decide +kernel
    exact ⟨h1, Nat.zero_le _, Nat.zero_le _, fun c hc => by cases hc⟩
  | ok r =>
    obtain ⟨_, h2, _, h3, h4, h5⟩ := get_back h
    refine ⟨?_, by show r.ms.length ≤ 4096; omega, by show r.cs.length ≤ 4096; omega, h5⟩
    show (qPut r).length ≤ BIG
    rw [h2]
    unfold BIG
    omega
set_option maxHeartbeats 8000000 in
theorem bytes_any (s : ByteArray) (hs : s.size ≤ 9223372036854775807) (W : World) :
    Calls Try.prog 3 #[.string s] W fun e w' => e = .returned (.bool true) ∧ Below W.heap.size W w' := by
  have HSP := Lib.hid (fun w => speaks_any w)
  by_cases hl : s.size ≤ 2000
  · have hl2 : ¬ (2000 : Int) < (s.size : Int) := by omega
    obtain ⟨h1, h2, h3, h4⟩ := get_small (bs s) (by show s.data.toList.length ≤ 2000; rw [Array.length_toList]; exact hl)
    have HG := Lib.hid (fun w => get_any s hs w)
    have HD := Lib.hid (fun w => dget_any s hs w)
    obtain ⟨R, hR⟩ : ∃ R, R = getR (bs s) := ⟨_, rfl⟩
    rw [← hR] at h1 h2 h3 h4 HG HD
    obtain ⟨c, hc⟩ : ∃ c : Int, c = (codeOf R : Nat) := ⟨_, rfl⟩
    have HG := Lib.hid (fun w => show Calls Try.prog 8 #[.string s] w (fun e w' => ∃ v, e = .returned (.tuple #[v, .int .i64 c]) ∧ RlAt (fun b => w.heap.size ≤ b) w' (rolOf R) v ∧ Below w.heap.size w w') by rw [hc]; exact HG.out w)
    have HD := Lib.hid (fun w => show Calls Try.prog 9 #[.string s] w (fun e w' => ∃ v, e = .returned (.tuple #[v, .int .i64 c]) ∧ RlAt (fun b => w.heap.size ≤ b) w' (rolOf R) v ∧ Below w.heap.size w w') by rw [hc]; exact HD.out w)
    have HSM := Lib.hid (fun (P Q : Nat → Prop) (w : World) (v u : Value) (h : RlAt P w (rolOf R) v) (k : RlAt Q w (rolOf R) u) => same_any (rolOf R) h1 h2 h3 h4 P Q w v u h k)
    have HPT := Lib.hid (fun (P : Nat → Prop) (w : World) (v : Value) (h : RlAt P w (rolOf R) v) => put_any (rolOf R) P w v h h2 h3)
    have HX := Lib.hid (show (c ≠ 0 ∨ (c = 0 ∧ (⟨((putR (rolOf R)).getD []).toArray⟩ : ByteArray) = s)) from by
      cases hq : R with
      | error x => left; have := error_pos (hR.symm.trans hq); rw [hc, hq]; show ((x : Nat) : Int) ≠ 0; omega
      | ok r =>
        right
        obtain ⟨a, _⟩ := get_back (hR.symm.trans hq)
        refine ⟨by rw [hc, hq]; rfl, ?_⟩
        show (⟨((putR r).getD []).toArray⟩ : ByteArray) = s
        rw [a]
        exact mkS_bs s)
    obtain ⟨p, hp⟩ : ∃ p : ByteArray, p = ⟨((putR (rolOf R)).getD []).toArray⟩ := ⟨_, rfl⟩
    rw [← hp] at HPT HX
    obtain ⟨r, hr⟩ : ∃ r, r = rolOf R := ⟨_, rfl⟩
    rw [← hr] at HG HD HSM HPT
    clear hR hc h1 h2 h3 h4 hp hr
    go_enter Try.func3, Try.ntmps3
    go_wp2_with fail
    refine (HSP.out W).mono ?_
    rintro e w1 ⟨rfl, hb1⟩
    have HB1 := Lib.hid hb1
    clear hb1
    go_wp2_with fail
    refine (HG.out w1).mono ?_
    rintro e w2 ⟨v, rfl, hrl2, hb2⟩
    obtain ⟨Am, cm, Ac, cc, rfl, _, _⟩ := hrl2.form
    obtain ⟨n, hnn⟩ : ∃ n, n = r.ms.length := ⟨_, rfl⟩
    obtain ⟨m, hmm⟩ : ∃ m, m = r.cs.length := ⟨_, rfl⟩
    rw [← hnn, ← hmm] at hrl2 ⊢
    obtain ⟨M2, hM2⟩ : ∃ M, M = w2.alloc (.cells #[.slice Am n cm, .slice Ac m cc] 26) := ⟨_, rfl⟩
    obtain ⟨q2, hq2⟩ : ∃ q, q = w2.heap.size := ⟨_, rfl⟩
    have hbm2 : Below w2.heap.size w2 M2 := by rw [hM2]; exact (Below.refl _ _).alloc (Nat.le_refl _) _
    have hx2 : M2.heap[q2]? = some (.cells #[.slice Am n cm, .slice Ac m cc] 26 (0, 0)) := by rw [hM2, hq2]; exact heap_alloc_new _ _
    have HR2 := Lib.hid (hrl2.under hbm2)
    have HB2 := Lib.hid (HB1.out.trans ((hb2.trans (hbm2.mono hb2.size)).mono HB1.out.size))
    have HM2 := Lib.hid hM2
    have HQ2 := Lib.hid hq2
    have HX2 := Lib.hid hx2
    have HNN := Lib.hid hnn
    have HMM := Lib.hid hmm
    clear hrl2 hb2 hM2 hq2 hx2 hbm2 hnn hmm
    go_upto_region 6 with fail
    rw [← HM2.out, ← HQ2.out]
    go_wp2_with fail
    refine (HD.out M2).mono ?_
    rintro e w3 ⟨u, rfl, hrl3, hb3⟩
    obtain ⟨Bm, dm, Bc, dc, rfl, _, _⟩ := hrl3.form
    rw [← HNN.out, ← HMM.out] at hrl3 ⊢
    obtain ⟨M3, hM3⟩ : ∃ M, M = w3.alloc (.cells #[.slice Bm n dm, .slice Bc m dc] 33) := ⟨_, rfl⟩
    obtain ⟨q3, hq3⟩ : ∃ q, q = w3.heap.size := ⟨_, rfl⟩
    have hbm3 : Below w3.heap.size w3 M3 := by rw [hM3]; exact (Below.refl _ _).alloc (Nat.le_refl _) _
    have hx3 : M3.heap[q3]? = some (.cells #[.slice Bm n dm, .slice Bc m dc] 33 (0, 0)) := by rw [hM3, hq3]; exact heap_alloc_new _ _
    have hb23 := hb3.trans (hbm3.mono hb3.size)
    have HR3 := Lib.hid (hrl3.under hbm3)
    have HR23 := Lib.hid (HR2.out.under hb23)
    have hx23 := (hb23.block _ (Gn.heap_lt HX2.out)).trans HX2.out
    have HX23 := Lib.hid hx23
    have HB3 := Lib.hid (HB2.out.trans (hb23.mono HB2.out.size))
    have HM3 := Lib.hid hM3
    have HQ3 := Lib.hid hq3
    have y0 := cell_of_row _ _ 0 _ _ (0, 0) hx23
    have y1 := cell_of_row _ _ 1 _ _ (0, 0) hx23
    have y2 := cell_of_row _ _ 0 _ _ (0, 0) hx3
    have y3 := cell_of_row _ _ 1 _ _ (0, 0) hx3
    clear hrl3 hb3 hM3 hq3 hbm3 hb23 hx23 hx3
    go_upto_region 7 with fail
    rw [← HM3.out, ← HQ3.out]
    go_wp2_with fail
    refine (HSM.out _ _ M3 _ _ HR23.out HR3.out).mono ?_
    rintro e w4 ⟨rfl, hb4⟩
    have HB4 := Lib.hid (HB3.out.trans (hb4.mono HB3.out.size))
    have hx24 := (hb4.block _ (Gn.heap_lt HX23.out)).trans HX23.out
    have HR24 := Lib.hid (HR23.out.under hb4)
    have y0 := cell_of_row _ _ 0 _ _ (0, 0) hx24
    have y1 := cell_of_row _ _ 1 _ _ (0, 0) hx24
    clear hb4 hx24
    rcases HX.out with hc | ⟨hc, hp⟩
    · have hc2 : (c != 0) = true := by rw [bne_iff_ne]; exact hc
      have hc3 : (c == 0) = false := by rw [beq_eq_false_iff_ne]; exact hc
      clear hc
      go_wp2_with fail
      go_ret
      exact ⟨rfl, HB4.out⟩
    · subst hc
      subst hp
      go_wp2_with fail
      refine (HPT.out _ w4 _ HR24.out).mono ?_
      rintro e w5 ⟨rfl, hb5⟩
      have HB5 := Lib.hid (HB4.out.trans (hb5.mono HB4.out.size))
      clear hb5
      go_wp2_with fail
      go_ret
      exact ⟨rfl, HB5.out⟩
  · have hl2 : (2000 : Int) < (s.size : Int) := by omega
    go_enter Try.func3, Try.ntmps3
    go_wp2_with fail
    refine (HSP.out W).mono ?_
    rintro e w1 ⟨rfl, hb1⟩
    have HB1 := Lib.hid hb1
    clear hb1
    go_wp2_with fail
    go_ret
    exact ⟨rfl, HB1.out⟩
end Go.Proofs.Ytnmhgjoofgmcgaa.Rl
