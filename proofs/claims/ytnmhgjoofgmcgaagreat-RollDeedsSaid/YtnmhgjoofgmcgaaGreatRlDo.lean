/-
  Layer 18: the law's kind, long, do.
-/
import Derived.Test.YtnmhgjoofgmcgaaGreatRlLeave
import Derived.Test.YtnmhgjoofgmcgaaGreatRlGrant
namespace Go.Proofs.YtnmhgjoofgmcgaaGreat.Rl
open Go.RowKit
open Fx (StrsAt)
set_option maxRecDepth 100000
set_option linter.unusedSimpArgs false
set_option linter.unusedVariables false
structure Dd where
  what : Int
  a : ByteArray
  b : ByteArray
  n : Int
def encD (d : Dd) : List Value := [.int .i64 d.what, .string d.a, .string d.b, .int .i64 d.n]
def kN (d : Dd) : Nat := ((d.what.tmod 7 + 7).tmod 7).toNat
theorem kN_is (d : Dd) : ((kN d : Nat) : Int) = (d.what.tmod 7 + 7).tmod 7 ∧ kN d ≤ 6 := by
  have h1 := Int.tmod_lt_of_pos d.what (show (0 : Int) < 7 by decide)
  have h2 : -7 < d.what.tmod 7 := Int.lt_tmod_of_pos d.what (show (0 : Int) < 7 by decide)
  have h3 := Int.tmod_nonneg (a := d.what.tmod 7 + 7) 7 (by omega)
  have h4 := Int.tmod_lt_of_pos (d.what.tmod 7 + 7) (show (0 : Int) < 7 by decide)
  unfold kN
  omega
theorem kind_any (d : Dd) (W : World) : Calls Tryz.prog 20 #[.agg (encD d).toArray] W fun e w' => e = .returned (.int .i64 (kN d : Nat)) ∧ Below W.heap.size W w' := by
  obtain ⟨h0, h6⟩ := kN_is d
  have h1 := Int.tmod_lt_of_pos d.what (show (0 : Int) < 7 by decide)
  have h2 : -7 < d.what.tmod 7 := Int.lt_tmod_of_pos d.what (show (0 : Int) < 7 by decide)
  obtain ⟨k, hk⟩ : ∃ k, k = kN d := ⟨_, rfl⟩
  rw [← hk] at h0 h6 ⊢
  obtain ⟨x, a, b, n⟩ := d
  dsimp only [encD] at *
  obtain ⟨V, hV⟩ : ∃ V, V = W.alloc (.cells #[.int .i64 x, .string a, .string b, .int .i64 n] 34) := ⟨_, rfl⟩
  have hb : Below W.heap.size W V := by rw [hV]; exact (Below.refl _ W).alloc (Nat.le_refl _) _
  have hx : V.heap[W.heap.size]? = some (.cells #[.int .i64 x, .string a, .string b, .int .i64 n] 34 (0, 0)) := by rw [hV]; exact heap_alloc_new W _
  have x0 := cell_of_row _ _ 0 _ _ (0, 0) hx
  have HV := Lib.hid hV
  have HB := Lib.hid hb
  obtain ⟨y, hy⟩ : ∃ y, y = x.tmod 7 := ⟨_, rfl⟩
  rw [← hy] at h0 h1 h2
  have hw1 : IntKind.i64.wrap y = y := IntWalk.i64_in _ (by omega)
  have hw2 : IntKind.i64.wrap (y + 7) = y + 7 := IntWalk.i64_in _ (by omega)
  have hw3 : IntKind.i64.wrap (k : Int) = (k : Int) := IntWalk.i64_in _ (by omega)
  have hy2 := hy.symm
  have h02 := h0.symm
  have hq1 : (binOp .rem 3 (.int .i64 x) (.int .i64 7)).run Tryz.prog V = .ok (.int .i64 y) V := by
    rw [hy]; first | rfl | kernel_rfl
  have hq2 : (binOp .rem 3 (.int .i64 (y + 7)) (.int .i64 7)).run Tryz.prog V = .ok (.int .i64 k) V := by
    rw [← h02]; first | rfl | kernel_rfl
  have HK := Lib.hid hk
  clear hV hb hx hk hy h0
  go_enter Tryz.func20, Tryz.ntmps20
  go_upto_region 1 with fail
  rw [← HV.out]
  go_wp2_with fail
  go_ret
  exact ⟨rfl, HB.out⟩
def longM (d : Dd) : Bool := decide (200 < d.a.size) || decide (200 < d.b.size)
set_option maxHeartbeats 2000000 in
theorem long_any (d : Dd) (W : World) (ha : d.a.size ≤ 9223372036854775807) (hb9 : d.b.size ≤ 9223372036854775807) : Calls Tryz.prog 5 #[.agg (encD d).toArray] W fun e w' => e = .returned (.bool (longM d)) ∧ Below W.heap.size W w' := by
  obtain ⟨x, a, b, n⟩ := d
  unfold longM
  dsimp only [encD] at *
  obtain ⟨V, hV⟩ : ∃ V, V = W.alloc (.cells #[.int .i64 x, .string a, .string b, .int .i64 n] 34) := ⟨_, rfl⟩
  have hb : Below W.heap.size W V := by rw [hV]; exact (Below.refl _ W).alloc (Nat.le_refl _) _
  have hx : V.heap[W.heap.size]? = some (.cells #[.int .i64 x, .string a, .string b, .int .i64 n] 34 (0, 0)) := by rw [hV]; exact heap_alloc_new W _
  have x1 := cell_of_row _ _ 1 _ _ (0, 0) hx
  have x2 := cell_of_row _ _ 2 _ _ (0, 0) hx
  have HV := Lib.hid hV
  have HB := Lib.hid hb
  clear hV hb hx
  by_cases h1 : 200 < a.size
  · have h1i : (200 : Int) < (a.size : Int) := by omega
    go_enter Tryz.func5, Tryz.ntmps5
    go_upto_region 1 with fail
    rw [← HV.out]
    go_wp2_with fail
    go_ret
    exact ⟨by simp [h1, h1i], HB.out⟩
  · have h1i : ¬ (200 : Int) < (a.size : Int) := by omega
    by_cases h2 : 200 < b.size
    · have h2i : (200 : Int) < (b.size : Int) := by omega
      go_enter Tryz.func5, Tryz.ntmps5
      go_upto_region 1 with fail
      rw [← HV.out]
      go_wp2_with fail
      go_ret
      exact ⟨by simp [h1, h2, h1i, h2i], HB.out⟩
    · have h2i : ¬ (200 : Int) < (b.size : Int) := by omega
      go_enter Tryz.func5, Tryz.ntmps5
      go_upto_region 1 with fail
      rw [← HV.out]
      go_wp2_with fail
      go_ret
      exact ⟨by simp [h1, h2, h1i, h2i], HB.out⟩
def doK (r : Rol) (a b : ByteArray) (n : Int) : Nat → Except Nat Rol
  | 0 => enrolM r a n
  | 1 => leaveM r a
  | 2 => grantM r a n
  | 3 => openM r a b
  | 4 => closeM r a
  | 5 => joinM r a b
  | _ => partM r a b
def doM (r : Rol) (d : Dd) : Except Nat Rol := doK r d.a d.b d.n (kN d)
theorem OpOut.box {W w2 w3 : World} {R : Except Nat Rol} {x y : Value} (hb2 : Below W.heap.size W w2) (hz : W.heap.size + 1 + 1 < w2.heap.size) (hr : RlAt (fun b => w2.heap.size ≤ b) w3 (rolOf R) (.agg #[x, y])) (hb3 : Below w2.heap.size w2 w3) :
    OpOut W R (.returned (.tuple #[.agg #[x, y], .int .i64 (codeOf R : Nat)])) ((w3.setCell ⟨W.heap.size + 1 + 1, 0, none⟩ x).setCell ⟨W.heap.size + 1 + 1, 1, none⟩ y) :=
  ⟨_, rfl, hr.keep (by simp [World.setCell]) fun q hq _ => ⟨by omega, fun j => Gn.cell_same ((Gn.set_keep _ _ _ (by show W.heap.size + 1 + 1 ≠ q; omega)).trans (Gn.set_keep _ _ _ (by show W.heap.size + 1 + 1 ≠ q; omega))) j⟩, ((hb2.trans (hb3.mono hb2.size)).setCell (by show W.heap.size ≤ W.heap.size + 1 + 1; omega) _).setCell (by show W.heap.size ≤ W.heap.size + 1 + 1; omega) _⟩
set_option maxHeartbeats 16000000 in
theorem do_any (r : Rol) (d : Dd) (hsz : Sized r) (hda : d.a.size ≤ 9223372036854775807) (P : Nat → Prop) (W : World) (v : Value) (h : RlAt P W r v) :
    Calls Tryz.prog 6 #[v, .agg (encD d).toArray] W (OpOut W (doM r d)) := by
  obtain ⟨Am, cm, Ac, cc, rfl, hms, hcs⟩ := h.form
  obtain ⟨n, hnn⟩ : ∃ n, n = r.ms.length := ⟨_, rfl⟩
  obtain ⟨m, hmm⟩ : ∃ m, m = r.cs.length := ⟨_, rfl⟩
  rw [← hnn, ← hmm] at h ⊢
  have HKD := Lib.hid (fun w => kind_any d w)
  obtain ⟨k, hk⟩ : ∃ k, k = kN d := ⟨_, rfl⟩
  have hk6 : k ≤ 6 := by rw [hk]; exact (kN_is d).2
  have hdo : doM r d = doK r d.a d.b d.n k := by rw [hk]; rfl
  rw [← hk] at HKD
  obtain ⟨x, a, b, c⟩ := d
  dsimp only [encD] at *
  obtain ⟨V, hV⟩ : ∃ V, V = ((W.alloc (.cells #[.slice Am n cm, .slice Ac m cc] 27)).alloc (.cells #[.int .i64 x, .string a, .string b, .int .i64 c] 34)).alloc (.cells #[.slice none 0 0, .slice none 0 0] 27) := ⟨_, rfl⟩
  have hb : Below W.heap.size W V := by rw [hV]; exact (((Below.refl _ W).alloc (Nat.le_refl _) _).alloc (by simp) _).alloc (by simp; omega) _
  have hx0 : V.heap[W.heap.size]? = some (.cells #[.slice Am n cm, .slice Ac m cc] 27 (0, 0)) := by rw [hV]; exact (heap_alloc_old _ _ (by simp; omega)).trans ((heap_alloc_old _ _ (by simp)).trans (heap_alloc_new W _))
  have hxn : V.heap[W.heap.size + 1]? = some (.cells #[.int .i64 x, .string a, .string b, .int .i64 c] 34 (0, 0)) := by
    rw [hV]; exact (heap_alloc_old _ _ (by simp)).trans (by have := heap_alloc_new (W.alloc (.cells #[.slice Am n cm, .slice Ac m cc] 27)) (.cells #[.int .i64 x, .string a, .string b, .int .i64 c] 34); simpa using this)
  have hx1 : V.heap[W.heap.size + 1 + 1]? = some (.cells #[.slice none 0 0, .slice none 0 0] 27 (0, 0)) := by
    rw [hV]; have := heap_alloc_new ((W.alloc (.cells #[.slice Am n cm, .slice Ac m cc] 27)).alloc (.cells #[.int .i64 x, .string a, .string b, .int .i64 c] 34)) (.cells #[.slice none 0 0, .slice none 0 0] 27); simpa using this
  have HH := Lib.hid (fun (w : World) (b : Below W.heap.size W w) => h.under b)
  have HSZ := Lib.hid hsz
  have HDO := Lib.hid hdo
  have HDA := Lib.hid hda
  have HV := Lib.hid hV
  have HB := Lib.hid hb
  have HX0 := Lib.hid hx0
  have HXN := Lib.hid hxn
  have HX1 := Lib.hid hx1
  have xn0 := cell_of_row _ _ 0 _ _ (0, 0) hxn
  have xn1 := cell_of_row _ _ 1 _ _ (0, 0) hxn
  have xn2 := cell_of_row _ _ 2 _ _ (0, 0) hxn
  have xn3 := cell_of_row _ _ 3 _ _ (0, 0) hxn
  have HK := Lib.hid hk
  clear hV hb hx0 hxn hx1 h hsz hdo hda hms hcs hk hnn hmm
  go_enter Tryz.func6, Tryz.ntmps6
  go_upto_region 1 with fail
  rw [← HV.out]
  go_wp2_with fail
  refine (HKD.out V).mono ?_
  rintro e w2 ⟨rfl, hb2⟩
  have hy0 := (hb2.block _ (Gn.heap_lt HX0.out)).trans HX0.out
  have hyn := (hb2.block _ (Gn.heap_lt HXN.out)).trans HXN.out
  have hy1 := (hb2.block _ (Gn.heap_lt HX1.out)).trans HX1.out
  have HY1 := Lib.hid hy1
  have HB2 := Lib.hid (HB.out.trans (hb2.mono HB.out.size))
  have HZ2 := Lib.hid (Gn.heap_lt hy1)
  clear xn0 xn1 xn2 xn3
  have y0 := cell_of_row _ _ 0 _ _ (0, 0) hy0
  have y1 := cell_of_row _ _ 1 _ _ (0, 0) hy0
  have yn1 := cell_of_row _ _ 1 _ _ (0, 0) hyn
  have yn2 := cell_of_row _ _ 2 _ _ (0, 0) hyn
  have yn3 := cell_of_row _ _ 3 _ _ (0, 0) hyn
  clear hb2 hy0 hyn hy1
  have hk7 : k = 0 ∨ k = 1 ∨ k = 2 ∨ k = 3 ∨ k = 4 ∨ k = 5 ∨ k = 6 := by omega
  clear hk6
  rcases hk7 with rfl | rfl | rfl | rfl | rfl | rfl | rfl
  · have HR := Lib.hid (show doM r ⟨x, a, b, c⟩ = enrolM r a c by rw [HDO.out]; rfl)
    clear HDO
    go_wp2_with fail
    refine (enrol_any r a c HSZ.out HDA.out P w2 _ (HH.out w2 HB2.out)).mono ?_
    rintro e w3 ⟨v3, rfl, hr3, hb3⟩
    obtain ⟨A1, c1, A2, c2, rfl, _, _⟩ := hr3.form
    obtain ⟨n1, hn1⟩ : ∃ n1, n1 = (rolOf (enrolM r a c)).ms.length := ⟨_, rfl⟩
    obtain ⟨n2, hn2⟩ : ∃ n2, n2 = (rolOf (enrolM r a c)).cs.length := ⟨_, rfl⟩
    rw [← hn1, ← hn2] at hr3 ⊢
    have HFI := Lib.hid (OpOut.box HB2.out HZ2.out hr3 hb3)
    have hq1 := (hb3.block _ HZ2.out).trans HY1.out
    have r0 := cell_of_row _ _ 0 _ _ (0, 0) hq1
    have r1 := cell_of_row _ _ 1 _ _ (0, 0) hq1
    have g0 := Gn.frozen_row hq1 0
    have g1 := Gn.frozen_row hq1 1
    have HRS := Lib.hid (Gn.heap_set (Gn.heap_set hq1 0 (.slice A1 n1 c1)) 1 (.slice A2 n2 c2))
    clear hr3 hb3 hn1 hn2 hq1 y0 y1 yn1 yn2 yn3
    go_wp2_with fail
    refine bodyPost_ret (results_ct (P := Tryz.prog) rfl _ _ (W.heap.size + 1 + 1) 27 _ (0, 0) _ _ rfl rfl HRS.out Tryz.underlying27 rfl (by kernel_rfl)) rfl ?_
    rw [HR.out]
    exact HFI.out
  · have HR := Lib.hid (show doM r ⟨x, a, b, c⟩ = leaveM r a by rw [HDO.out]; rfl)
    clear HDO
    go_wp2_with fail
    refine (leave_any r a HSZ.out P w2 _ (HH.out w2 HB2.out)).mono ?_
    rintro e w3 ⟨v3, rfl, hr3, hb3⟩
    obtain ⟨A1, c1, A2, c2, rfl, _, _⟩ := hr3.form
    obtain ⟨n1, hn1⟩ : ∃ n1, n1 = (rolOf (leaveM r a)).ms.length := ⟨_, rfl⟩
    obtain ⟨n2, hn2⟩ : ∃ n2, n2 = (rolOf (leaveM r a)).cs.length := ⟨_, rfl⟩
    rw [← hn1, ← hn2] at hr3 ⊢
    have HFI := Lib.hid (OpOut.box HB2.out HZ2.out hr3 hb3)
    have hq1 := (hb3.block _ HZ2.out).trans HY1.out
    have r0 := cell_of_row _ _ 0 _ _ (0, 0) hq1
    have r1 := cell_of_row _ _ 1 _ _ (0, 0) hq1
    have g0 := Gn.frozen_row hq1 0
    have g1 := Gn.frozen_row hq1 1
    have HRS := Lib.hid (Gn.heap_set (Gn.heap_set hq1 0 (.slice A1 n1 c1)) 1 (.slice A2 n2 c2))
    clear hr3 hb3 hn1 hn2 hq1 y0 y1 yn1 yn2 yn3
    go_wp2_with fail
    refine bodyPost_ret (results_ct (P := Tryz.prog) rfl _ _ (W.heap.size + 1 + 1) 27 _ (0, 0) _ _ rfl rfl HRS.out Tryz.underlying27 rfl (by kernel_rfl)) rfl ?_
    rw [HR.out]
    exact HFI.out
  · have HR := Lib.hid (show doM r ⟨x, a, b, c⟩ = grantM r a c by rw [HDO.out]; rfl)
    clear HDO
    go_wp2_with fail
    refine (grant_any r a c HSZ.out P w2 _ (HH.out w2 HB2.out)).mono ?_
    rintro e w3 ⟨v3, rfl, hr3, hb3⟩
    obtain ⟨A1, c1, A2, c2, rfl, _, _⟩ := hr3.form
    obtain ⟨n1, hn1⟩ : ∃ n1, n1 = (rolOf (grantM r a c)).ms.length := ⟨_, rfl⟩
    obtain ⟨n2, hn2⟩ : ∃ n2, n2 = (rolOf (grantM r a c)).cs.length := ⟨_, rfl⟩
    rw [← hn1, ← hn2] at hr3 ⊢
    have HFI := Lib.hid (OpOut.box HB2.out HZ2.out hr3 hb3)
    have hq1 := (hb3.block _ HZ2.out).trans HY1.out
    have r0 := cell_of_row _ _ 0 _ _ (0, 0) hq1
    have r1 := cell_of_row _ _ 1 _ _ (0, 0) hq1
    have g0 := Gn.frozen_row hq1 0
    have g1 := Gn.frozen_row hq1 1
    have HRS := Lib.hid (Gn.heap_set (Gn.heap_set hq1 0 (.slice A1 n1 c1)) 1 (.slice A2 n2 c2))
    clear hr3 hb3 hn1 hn2 hq1 y0 y1 yn1 yn2 yn3
    go_wp2_with fail
    refine bodyPost_ret (results_ct (P := Tryz.prog) rfl _ _ (W.heap.size + 1 + 1) 27 _ (0, 0) _ _ rfl rfl HRS.out Tryz.underlying27 rfl (by kernel_rfl)) rfl ?_
    rw [HR.out]
    exact HFI.out
  · have HR := Lib.hid (show doM r ⟨x, a, b, c⟩ = openM r a b by rw [HDO.out]; rfl)
    clear HDO
    go_wp2_with fail
    refine (open_any r a b HSZ.out HDA.out P w2 _ (HH.out w2 HB2.out)).mono ?_
    rintro e w3 ⟨v3, rfl, hr3, hb3⟩
    obtain ⟨A1, c1, A2, c2, rfl, _, _⟩ := hr3.form
    obtain ⟨n1, hn1⟩ : ∃ n1, n1 = (rolOf (openM r a b)).ms.length := ⟨_, rfl⟩
    obtain ⟨n2, hn2⟩ : ∃ n2, n2 = (rolOf (openM r a b)).cs.length := ⟨_, rfl⟩
    rw [← hn1, ← hn2] at hr3 ⊢
    have HFI := Lib.hid (OpOut.box HB2.out HZ2.out hr3 hb3)
    have hq1 := (hb3.block _ HZ2.out).trans HY1.out
    have r0 := cell_of_row _ _ 0 _ _ (0, 0) hq1
    have r1 := cell_of_row _ _ 1 _ _ (0, 0) hq1
    have g0 := Gn.frozen_row hq1 0
    have g1 := Gn.frozen_row hq1 1
    have HRS := Lib.hid (Gn.heap_set (Gn.heap_set hq1 0 (.slice A1 n1 c1)) 1 (.slice A2 n2 c2))
    clear hr3 hb3 hn1 hn2 hq1 y0 y1 yn1 yn2 yn3
    go_wp2_with fail
    refine bodyPost_ret (results_ct (P := Tryz.prog) rfl _ _ (W.heap.size + 1 + 1) 27 _ (0, 0) _ _ rfl rfl HRS.out Tryz.underlying27 rfl (by kernel_rfl)) rfl ?_
    rw [HR.out]
    exact HFI.out
  · have HR := Lib.hid (show doM r ⟨x, a, b, c⟩ = closeM r a by rw [HDO.out]; rfl)
    clear HDO
    go_wp2_with fail
    refine (close_any r a HSZ.out P w2 _ (HH.out w2 HB2.out)).mono ?_
    rintro e w3 ⟨v3, rfl, hr3, hb3⟩
    obtain ⟨A1, c1, A2, c2, rfl, _, _⟩ := hr3.form
    obtain ⟨n1, hn1⟩ : ∃ n1, n1 = (rolOf (closeM r a)).ms.length := ⟨_, rfl⟩
    obtain ⟨n2, hn2⟩ : ∃ n2, n2 = (rolOf (closeM r a)).cs.length := ⟨_, rfl⟩
    rw [← hn1, ← hn2] at hr3 ⊢
    have HFI := Lib.hid (OpOut.box HB2.out HZ2.out hr3 hb3)
    have hq1 := (hb3.block _ HZ2.out).trans HY1.out
    have r0 := cell_of_row _ _ 0 _ _ (0, 0) hq1
    have r1 := cell_of_row _ _ 1 _ _ (0, 0) hq1
    have g0 := Gn.frozen_row hq1 0
    have g1 := Gn.frozen_row hq1 1
    have HRS := Lib.hid (Gn.heap_set (Gn.heap_set hq1 0 (.slice A1 n1 c1)) 1 (.slice A2 n2 c2))
    clear hr3 hb3 hn1 hn2 hq1 y0 y1 yn1 yn2 yn3
    go_wp2_with fail
    refine bodyPost_ret (results_ct (P := Tryz.prog) rfl _ _ (W.heap.size + 1 + 1) 27 _ (0, 0) _ _ rfl rfl HRS.out Tryz.underlying27 rfl (by kernel_rfl)) rfl ?_
    rw [HR.out]
    exact HFI.out
  · have HR := Lib.hid (show doM r ⟨x, a, b, c⟩ = joinM r a b by rw [HDO.out]; rfl)
    clear HDO
    go_wp2_with fail
    refine (Join_any r a b HSZ.out P w2 _ (HH.out w2 HB2.out)).mono ?_
    rintro e w3 ⟨v3, rfl, hr3, hb3⟩
    obtain ⟨A1, c1, A2, c2, rfl, _, _⟩ := hr3.form
    obtain ⟨n1, hn1⟩ : ∃ n1, n1 = (rolOf (joinM r a b)).ms.length := ⟨_, rfl⟩
    obtain ⟨n2, hn2⟩ : ∃ n2, n2 = (rolOf (joinM r a b)).cs.length := ⟨_, rfl⟩
    rw [← hn1, ← hn2] at hr3 ⊢
    have HFI := Lib.hid (OpOut.box HB2.out HZ2.out hr3 hb3)
    have hq1 := (hb3.block _ HZ2.out).trans HY1.out
    have r0 := cell_of_row _ _ 0 _ _ (0, 0) hq1
    have r1 := cell_of_row _ _ 1 _ _ (0, 0) hq1
    have g0 := Gn.frozen_row hq1 0
    have g1 := Gn.frozen_row hq1 1
    have HRS := Lib.hid (Gn.heap_set (Gn.heap_set hq1 0 (.slice A1 n1 c1)) 1 (.slice A2 n2 c2))
    clear hr3 hb3 hn1 hn2 hq1 y0 y1 yn1 yn2 yn3
    go_wp2_with fail
    refine bodyPost_ret (results_ct (P := Tryz.prog) rfl _ _ (W.heap.size + 1 + 1) 27 _ (0, 0) _ _ rfl rfl HRS.out Tryz.underlying27 rfl (by kernel_rfl)) rfl ?_
    rw [HR.out]
    exact HFI.out
  · have HR := Lib.hid (show doM r ⟨x, a, b, c⟩ = partM r a b by rw [HDO.out]; rfl)
    clear HDO
    go_wp2_with fail
    refine (Part_any r a b HSZ.out P w2 _ (HH.out w2 HB2.out)).mono ?_
    rintro e w3 ⟨v3, rfl, hr3, hb3⟩
    obtain ⟨A1, c1, A2, c2, rfl, _, _⟩ := hr3.form
    obtain ⟨n1, hn1⟩ : ∃ n1, n1 = (rolOf (partM r a b)).ms.length := ⟨_, rfl⟩
    obtain ⟨n2, hn2⟩ : ∃ n2, n2 = (rolOf (partM r a b)).cs.length := ⟨_, rfl⟩
    rw [← hn1, ← hn2] at hr3 ⊢
    have HFI := Lib.hid (OpOut.box HB2.out HZ2.out hr3 hb3)
    have hq1 := (hb3.block _ HZ2.out).trans HY1.out
    have r0 := cell_of_row _ _ 0 _ _ (0, 0) hq1
    have r1 := cell_of_row _ _ 1 _ _ (0, 0) hq1
    have g0 := Gn.frozen_row hq1 0
    have g1 := Gn.frozen_row hq1 1
    have HRS := Lib.hid (Gn.heap_set (Gn.heap_set hq1 0 (.slice A1 n1 c1)) 1 (.slice A2 n2 c2))
    clear hr3 hb3 hn1 hn2 hq1 y0 y1 yn1 yn2 yn3
    go_wp2_with fail
    refine bodyPost_ret (results_ct (P := Tryz.prog) rfl _ _ (W.heap.size + 1 + 1) 27 _ (0, 0) _ _ rfl rfl HRS.out Tryz.underlying27 rfl (by kernel_rfl)) rfl ?_
    rw [HR.out]
    exact HFI.out
end Go.Proofs.YtnmhgjoofgmcgaaGreat.Rl
