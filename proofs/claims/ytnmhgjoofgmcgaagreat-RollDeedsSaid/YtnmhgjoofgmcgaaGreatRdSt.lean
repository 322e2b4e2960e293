/-
  Layer 18: the law's done.
  Layer 18, pure: what every deed keeps besides: good names, right numbers; so what is put is got again.
  Layer 18: Class.
  Layer 18: what stands between the steps of RollDeeds.
-/
import Derived.Test.YtnmhgjoofgmcgaaGreatRlDo
import Derived.Test.YtnmhgjoofgmcgaaGreatRdCl
import Derived.Test.YtnmhgjoofgmcgaaGreatRdPt
import Derived.Test.YtnmhgjoofgmcgaaGreatRdJo
import Derived.Test.YtnmhgjoofgmcgaaGreatRdE
import Derived.Test.YtnmhgjoofgmcgaaGreatRlInv
import Derived.Test.YtnmhgjoofgmcgaaGreatRlBk
import Derived.Test.YtnmhgjoofgmcgaaGreatRlMember
import Derived.Test.YtnmhgjoofgmcgaaGreatRlCopy
import Derived.Test.YtnmhgjoofgmcgaaGreatRdEn
import Derived.Test.YtnmhgjoofgmcgaaGreatRlDs
import Derived.Test.YtnmhgjoofgmcgaaGreatRlTd
import Derived.Test.YtnmhgjoofgmcgaaGreatRlGet
import Derived.Test.YtnmhgjoofgmcgaaGreatRlPut
import Derived.Test.YtnmhgjoofgmcgaaGreatLooseD
import Derived.Deep.DeepCutAuto
import Derived.Deep.RegionHeld3

namespace Go.Proofs.YtnmhgjoofgmcgaaGreat.Rl
open Go.RowKit
open Fx (StrsAt)
set_option maxRecDepth 100000
set_option linter.unusedSimpArgs false
set_option linter.unusedVariables false
set_option maxHeartbeats 16000000 in
theorem done_any (r : Rol) (d : Dd) (hsz : Sized r) (hne : hasN r.names d.a = true → d.a ≠ ⟨#[]⟩) (hda : d.a.size ≤ 9223372036854775807) (P : Nat → Prop) (W : World) (v : Value) (h : RlAt P W r v) :
    Calls Tryz.prog 7 #[v, .agg (encD d).toArray] W (OpOut W (doM r d)) := by
  obtain ⟨Am, cm, Ac, cc, rfl, hms, hcs⟩ := h.form
  obtain ⟨n, hnn⟩ : ∃ n, n = r.ms.length := ⟨_, rfl⟩
  obtain ⟨m, hmm⟩ : ∃ m, m = r.cs.length := ⟨_, rfl⟩
  rw [← hnn, ← hmm] at h ⊢
  have HKD := Lib.hid (fun w => kind_any d w)
  obtain ⟨k, hk⟩ : ∃ k, k = kN d := ⟨_, rfl⟩
  have hk6 : k ≤ 6 := by rw [hk]; exact (kN_is d).2
  have hdo : doM r d = doK r d.a d.b d.n k := by rw [hk]; rfl
  rw [← hk] at HKD
  obtain ⟨x, a, b, c⟩ := d
  dsimp only [encD] at *
  obtain ⟨V, hV⟩ : ∃ V, V = ((W.alloc (.cells #[.slice Am n cm, .slice Ac m cc] 31)).alloc (.cells #[.int .i64 x, .string a, .string b, .int .i64 c] 34)).alloc (.cells #[.slice none 0 0, .slice none 0 0] 31) := ⟨_, rfl⟩
  have hb : Below W.heap.size W V := by rw [hV]; exact (((Below.refl _ W).alloc (Nat.le_refl _) _).alloc (by simp) _).alloc (by simp; omega) _
  have hx0 : V.heap[W.heap.size]? = some (.cells #[.slice Am n cm, .slice Ac m cc] 31 (0, 0)) := by rw [hV]; exact (heap_alloc_old _ _ (by simp; omega)).trans ((heap_alloc_old _ _ (by simp)).trans (heap_alloc_new W _))
  have hxn : V.heap[W.heap.size + 1]? = some (.cells #[.int .i64 x, .string a, .string b, .int .i64 c] 34 (0, 0)) := by
    rw [hV]; exact (heap_alloc_old _ _ (by simp)).trans (by have := heap_alloc_new (W.alloc (.cells #[.slice Am n cm, .slice Ac m cc] 31)) (.cells #[.int .i64 x, .string a, .string b, .int .i64 c] 34); simpa using this)
  have hx1 : V.heap[W.heap.size + 1 + 1]? = some (.cells #[.slice none 0 0, .slice none 0 0] 31 (0, 0)) := by
    rw [hV]; have := heap_alloc_new ((W.alloc (.cells #[.slice Am n cm, .slice Ac m cc] 31)).alloc (.cells #[.int .i64 x, .string a, .string b, .int .i64 c] 34)) (.cells #[.slice none 0 0, .slice none 0 0] 31); simpa using this
  have HH := Lib.hid (fun (w : World) (b : Below W.heap.size W w) => h.under b)
  have HSZ := Lib.hid hsz
  have HDO := Lib.hid hdo
  have HDA := Lib.hid hda
  have HNE := Lib.hid hne
  have HV := Lib.hid hV
  have HB := Lib.hid hb
  have HX0 := Lib.hid hx0
  have HXN := Lib.hid hxn
  have HX1 := Lib.hid hx1
  have xn0 := cell_of_row _ _ 0 _ _ (0, 0) hxn
  have xn1 := cell_of_row _ _ 1 _ _ (0, 0) hxn
  have xn2 := cell_of_row _ _ 2 _ _ (0, 0) hxn
  have xn3 := cell_of_row _ _ 3 _ _ (0, 0) hxn
  have HK := Lib.hid hk
  clear hV hb hx0 hxn hx1 h hsz hdo hda hne hms hcs hk hnn hmm
  go_enter Tryz.func7, Tryz.ntmps7
  go_upto_region 1 with fail
  rw [← HV.out]
  go_wp2_with fail
  refine (HKD.out V).mono ?_
  rintro e w2 ⟨rfl, hb2⟩
  have hy0 := (hb2.block _ (Gn.heap_lt HX0.out)).trans HX0.out
  have hyn := (hb2.block _ (Gn.heap_lt HXN.out)).trans HXN.out
  have hy1 := (hb2.block _ (Gn.heap_lt HX1.out)).trans HX1.out
  have HY1 := Lib.hid hy1
  have HB2 := Lib.hid (HB.out.trans (hb2.mono HB.out.size))
  have HZ2 := Lib.hid (Gn.heap_lt hy1)
  clear xn0 xn1 xn2 xn3
  have y0 := cell_of_row _ _ 0 _ _ (0, 0) hy0
  have y1 := cell_of_row _ _ 1 _ _ (0, 0) hy0
  have yn1 := cell_of_row _ _ 1 _ _ (0, 0) hyn
  have yn2 := cell_of_row _ _ 2 _ _ (0, 0) hyn
  have yn3 := cell_of_row _ _ 3 _ _ (0, 0) hyn
  clear hb2 hy0 hyn hy1
  have hk7 : k = 0 ∨ k = 1 ∨ k = 2 ∨ k = 3 ∨ k = 4 ∨ k = 5 ∨ k = 6 := by omega
  clear hk6
  rcases hk7 with rfl | rfl | rfl | rfl | rfl | rfl | rfl
  · have HR := Lib.hid (show doM r ⟨x, a, b, c⟩ = enrolM r a c by rw [HDO.out]; rfl)
    clear HDO
    go_wp2_with fail
    refine (denrol_any r a c HSZ.out HDA.out P w2 _ (HH.out w2 HB2.out)).mono ?_
    rintro e w3 ⟨v3, rfl, hr3, hb3⟩
    obtain ⟨A1, c1, A2, c2, rfl, _, _⟩ := hr3.form
    obtain ⟨n1, hn1⟩ : ∃ n1, n1 = (rolOf (enrolM r a c)).ms.length := ⟨_, rfl⟩
    obtain ⟨n2, hn2⟩ : ∃ n2, n2 = (rolOf (enrolM r a c)).cs.length := ⟨_, rfl⟩
    rw [← hn1, ← hn2] at hr3 ⊢
    have HFI := Lib.hid (OpOut.box HB2.out HZ2.out hr3 hb3)
    have hq1 := (hb3.block _ HZ2.out).trans HY1.out
    have r0 := cell_of_row _ _ 0 _ _ (0, 0) hq1
    have r1 := cell_of_row _ _ 1 _ _ (0, 0) hq1
    have g0 := Gn.frozen_row hq1 0
    have g1 := Gn.frozen_row hq1 1
    have HRS := Lib.hid (Gn.heap_set (Gn.heap_set hq1 0 (.slice A1 n1 c1)) 1 (.slice A2 n2 c2))
    clear hr3 hb3 hn1 hn2 hq1 y0 y1 yn1 yn2 yn3
    go_wp2_with fail
    refine bodyPost_ret (results_ct (P := Tryz.prog) rfl _ _ (W.heap.size + 1 + 1) 31 _ (0, 0) _ _ rfl rfl HRS.out Tryz.underlying31 rfl (by kernel_rfl)) rfl ?_
    rw [HR.out]
    exact HFI.out
  · have HR := Lib.hid (show doM r ⟨x, a, b, c⟩ = leaveM r a by rw [HDO.out]; rfl)
    clear HDO
    go_wp2_with fail
    refine (dleave_any r a HSZ.out HNE.out P w2 _ (HH.out w2 HB2.out)).mono ?_
    rintro e w3 ⟨v3, rfl, hr3, hb3⟩
    obtain ⟨A1, c1, A2, c2, rfl, _, _⟩ := hr3.form
    obtain ⟨n1, hn1⟩ : ∃ n1, n1 = (rolOf (leaveM r a)).ms.length := ⟨_, rfl⟩
    obtain ⟨n2, hn2⟩ : ∃ n2, n2 = (rolOf (leaveM r a)).cs.length := ⟨_, rfl⟩
    rw [← hn1, ← hn2] at hr3 ⊢
    have HFI := Lib.hid (OpOut.box HB2.out HZ2.out hr3 hb3)
    have hq1 := (hb3.block _ HZ2.out).trans HY1.out
    have r0 := cell_of_row _ _ 0 _ _ (0, 0) hq1
    have r1 := cell_of_row _ _ 1 _ _ (0, 0) hq1
    have g0 := Gn.frozen_row hq1 0
    have g1 := Gn.frozen_row hq1 1
    have HRS := Lib.hid (Gn.heap_set (Gn.heap_set hq1 0 (.slice A1 n1 c1)) 1 (.slice A2 n2 c2))
    clear hr3 hb3 hn1 hn2 hq1 y0 y1 yn1 yn2 yn3
    go_wp2_with fail
    refine bodyPost_ret (results_ct (P := Tryz.prog) rfl _ _ (W.heap.size + 1 + 1) 31 _ (0, 0) _ _ rfl rfl HRS.out Tryz.underlying31 rfl (by kernel_rfl)) rfl ?_
    rw [HR.out]
    exact HFI.out
  · have HR := Lib.hid (show doM r ⟨x, a, b, c⟩ = grantM r a c by rw [HDO.out]; rfl)
    clear HDO
    go_wp2_with fail
    refine (dgrant_any r a c HSZ.out P w2 _ (HH.out w2 HB2.out)).mono ?_
    rintro e w3 ⟨v3, rfl, hr3, hb3⟩
    obtain ⟨A1, c1, A2, c2, rfl, _, _⟩ := hr3.form
    obtain ⟨n1, hn1⟩ : ∃ n1, n1 = (rolOf (grantM r a c)).ms.length := ⟨_, rfl⟩
    obtain ⟨n2, hn2⟩ : ∃ n2, n2 = (rolOf (grantM r a c)).cs.length := ⟨_, rfl⟩
    rw [← hn1, ← hn2] at hr3 ⊢
    have HFI := Lib.hid (OpOut.box HB2.out HZ2.out hr3 hb3)
    have hq1 := (hb3.block _ HZ2.out).trans HY1.out
    have r0 := cell_of_row _ _ 0 _ _ (0, 0) hq1
    have r1 := cell_of_row _ _ 1 _ _ (0, 0) hq1
    have g0 := Gn.frozen_row hq1 0
    have g1 := Gn.frozen_row hq1 1
    have HRS := Lib.hid (Gn.heap_set (Gn.heap_set hq1 0 (.slice A1 n1 c1)) 1 (.slice A2 n2 c2))
    clear hr3 hb3 hn1 hn2 hq1 y0 y1 yn1 yn2 yn3
    go_wp2_with fail
    refine bodyPost_ret (results_ct (P := Tryz.prog) rfl _ _ (W.heap.size + 1 + 1) 31 _ (0, 0) _ _ rfl rfl HRS.out Tryz.underlying31 rfl (by kernel_rfl)) rfl ?_
    rw [HR.out]
    exact HFI.out
  · have HR := Lib.hid (show doM r ⟨x, a, b, c⟩ = openM r a b by rw [HDO.out]; rfl)
    clear HDO
    go_wp2_with fail
    refine (dopen_any r a b HSZ.out HDA.out P w2 _ (HH.out w2 HB2.out)).mono ?_
    rintro e w3 ⟨v3, rfl, hr3, hb3⟩
    obtain ⟨A1, c1, A2, c2, rfl, _, _⟩ := hr3.form
    obtain ⟨n1, hn1⟩ : ∃ n1, n1 = (rolOf (openM r a b)).ms.length := ⟨_, rfl⟩
    obtain ⟨n2, hn2⟩ : ∃ n2, n2 = (rolOf (openM r a b)).cs.length := ⟨_, rfl⟩
    rw [← hn1, ← hn2] at hr3 ⊢
    have HFI := Lib.hid (OpOut.box HB2.out HZ2.out hr3 hb3)
    have hq1 := (hb3.block _ HZ2.out).trans HY1.out
    have r0 := cell_of_row _ _ 0 _ _ (0, 0) hq1
    have r1 := cell_of_row _ _ 1 _ _ (0, 0) hq1
    have g0 := Gn.frozen_row hq1 0
    have g1 := Gn.frozen_row hq1 1
    have HRS := Lib.hid (Gn.heap_set (Gn.heap_set hq1 0 (.slice A1 n1 c1)) 1 (.slice A2 n2 c2))
    clear hr3 hb3 hn1 hn2 hq1 y0 y1 yn1 yn2 yn3
    go_wp2_with fail
    refine bodyPost_ret (results_ct (P := Tryz.prog) rfl _ _ (W.heap.size + 1 + 1) 31 _ (0, 0) _ _ rfl rfl HRS.out Tryz.underlying31 rfl (by kernel_rfl)) rfl ?_
    rw [HR.out]
    exact HFI.out
  · have HR := Lib.hid (show doM r ⟨x, a, b, c⟩ = closeM r a by rw [HDO.out]; rfl)
    clear HDO
    go_wp2_with fail
    refine (dclose_any r a HSZ.out P w2 _ (HH.out w2 HB2.out)).mono ?_
    rintro e w3 ⟨v3, rfl, hr3, hb3⟩
    obtain ⟨A1, c1, A2, c2, rfl, _, _⟩ := hr3.form
    obtain ⟨n1, hn1⟩ : ∃ n1, n1 = (rolOf (closeM r a)).ms.length := ⟨_, rfl⟩
    obtain ⟨n2, hn2⟩ : ∃ n2, n2 = (rolOf (closeM r a)).cs.length := ⟨_, rfl⟩
    rw [← hn1, ← hn2] at hr3 ⊢
    have HFI := Lib.hid (OpOut.box HB2.out HZ2.out hr3 hb3)
    have hq1 := (hb3.block _ HZ2.out).trans HY1.out
    have r0 := cell_of_row _ _ 0 _ _ (0, 0) hq1
    have r1 := cell_of_row _ _ 1 _ _ (0, 0) hq1
    have g0 := Gn.frozen_row hq1 0
    have g1 := Gn.frozen_row hq1 1
    have HRS := Lib.hid (Gn.heap_set (Gn.heap_set hq1 0 (.slice A1 n1 c1)) 1 (.slice A2 n2 c2))
    clear hr3 hb3 hn1 hn2 hq1 y0 y1 yn1 yn2 yn3
    go_wp2_with fail
    refine bodyPost_ret (results_ct (P := Tryz.prog) rfl _ _ (W.heap.size + 1 + 1) 31 _ (0, 0) _ _ rfl rfl HRS.out Tryz.underlying31 rfl (by kernel_rfl)) rfl ?_
    rw [HR.out]
    exact HFI.out
  · have HR := Lib.hid (show doM r ⟨x, a, b, c⟩ = joinM r a b by rw [HDO.out]; rfl)
    clear HDO
    go_wp2_with fail
    refine (djoin_any r a b HSZ.out P w2 _ (HH.out w2 HB2.out)).mono ?_
    rintro e w3 ⟨v3, rfl, hr3, hb3⟩
    obtain ⟨A1, c1, A2, c2, rfl, _, _⟩ := hr3.form
    obtain ⟨n1, hn1⟩ : ∃ n1, n1 = (rolOf (joinM r a b)).ms.length := ⟨_, rfl⟩
    obtain ⟨n2, hn2⟩ : ∃ n2, n2 = (rolOf (joinM r a b)).cs.length := ⟨_, rfl⟩
    rw [← hn1, ← hn2] at hr3 ⊢
    have HFI := Lib.hid (OpOut.box HB2.out HZ2.out hr3 hb3)
    have hq1 := (hb3.block _ HZ2.out).trans HY1.out
    have r0 := cell_of_row _ _ 0 _ _ (0, 0) hq1
    have r1 := cell_of_row _ _ 1 _ _ (0, 0) hq1
    have g0 := Gn.frozen_row hq1 0
    have g1 := Gn.frozen_row hq1 1
    have HRS := Lib.hid (Gn.heap_set (Gn.heap_set hq1 0 (.slice A1 n1 c1)) 1 (.slice A2 n2 c2))
    clear hr3 hb3 hn1 hn2 hq1 y0 y1 yn1 yn2 yn3
    go_wp2_with fail
    refine bodyPost_ret (results_ct (P := Tryz.prog) rfl _ _ (W.heap.size + 1 + 1) 31 _ (0, 0) _ _ rfl rfl HRS.out Tryz.underlying31 rfl (by kernel_rfl)) rfl ?_
    rw [HR.out]
    exact HFI.out
  · have HR := Lib.hid (show doM r ⟨x, a, b, c⟩ = partM r a b by rw [HDO.out]; rfl)
    clear HDO
    go_wp2_with fail
    refine (dpart_any r a b HSZ.out P w2 _ (HH.out w2 HB2.out)).mono ?_
    rintro e w3 ⟨v3, rfl, hr3, hb3⟩
    obtain ⟨A1, c1, A2, c2, rfl, _, _⟩ := hr3.form
    obtain ⟨n1, hn1⟩ : ∃ n1, n1 = (rolOf (partM r a b)).ms.length := ⟨_, rfl⟩
    obtain ⟨n2, hn2⟩ : ∃ n2, n2 = (rolOf (partM r a b)).cs.length := ⟨_, rfl⟩
    rw [← hn1, ← hn2] at hr3 ⊢
    have HFI := Lib.hid (OpOut.box HB2.out HZ2.out hr3 hb3)
    have hq1 := (hb3.block _ HZ2.out).trans HY1.out
    have r0 := cell_of_row _ _ 0 _ _ (0, 0) hq1
    have r1 := cell_of_row _ _ 1 _ _ (0, 0) hq1
    have g0 := Gn.frozen_row hq1 0
    have g1 := Gn.frozen_row hq1 1
    have HRS := Lib.hid (Gn.heap_set (Gn.heap_set hq1 0 (.slice A1 n1 c1)) 1 (.slice A2 n2 c2))
    clear hr3 hb3 hn1 hn2 hq1 y0 y1 yn1 yn2 yn3
    go_wp2_with fail
    refine bodyPost_ret (results_ct (P := Tryz.prog) rfl _ _ (W.heap.size + 1 + 1) 31 _ (0, 0) _ _ rfl rfl HRS.out Tryz.underlying31 rfl (by kernel_rfl)) rfl ?_
    rw [HR.out]
    exact HFI.out
end Go.Proofs.YtnmhgjoofgmcgaaGreat.Rl

namespace Go.Proofs.YtnmhgjoofgmcgaaGreat.Rl
open Go.RowKit
open Lx (bs goodB)
open Oct (app eText eInt eTexts)
set_option maxRecDepth 100000
set_option linter.unusedSimpArgs false
set_option linter.unusedVariables false
structure Ok (r : Rol) : Prop where
  mem : ∀ m ∈ r.ms, okM m = true
  cls : ∀ c ∈ r.cs, goodB (bs c.name) = true
  few : r.cs.length ≤ 32
theorem ok_nil : Ok ⟨[], []⟩ := ⟨fun m h => absurd h (by simp), fun m h => absurd h (by simp), Nat.zero_le _⟩
theorem okM_parts {m : Mem} (h : okM m = true) : goodB (bs m.name) = true ∧ (m.role = 1 ∨ m.role = 2) ∧ 0 ≤ m.quota ∧ m.quota ≤ 65536 := by
  unfold okM at h
  rw [Bool.and_eq_true, Bool.and_eq_true, decide_eq_true_iff, decide_eq_true_iff] at h
  exact ⟨h.1.1, h.1.2, h.2.1, h.2.2⟩
theorem good_size {s : ByteArray} (h : goodB (bs s) = true) : 0 < s.size ∧ s.size ≤ 32 := by
  unfold goodB at h
  rw [decide_eq_true_iff] at h
  have e : (bs s).length = s.size := rfl
  rw [e] at h
  exact ⟨h.1, h.2.1⟩
theorem ok_enrol {r r' : Rol} {nm : ByteArray} {role : Int} (h : Ok r) (e : enrolM r nm role = .ok r') : Ok r' := by
  unfold enrolM at e
  split at e
  · cases e
  · rename_i h1
    split at e
    · cases e
    · rename_i h2
      split at e
      · cases e
      · split at e
        · cases e
        · injection e with e
          subst e
          refine ⟨fun m hm => ?_, h.cls, h.few⟩
          rcases (mem_ins r.ms _ _ _).1 hm with rfl | hm
          · unfold okM
            have e1 : goodB (Lx.bs nm) = true := by cases hh : goodB (Lx.bs nm) with | true => rfl | false => exact absurd hh h1
            have e2 : decide (role = 1 ∨ role = 2) = true := by cases hh : decide (role = 1 ∨ role = 2) with | true => rfl | false => exact absurd hh h2
            show (goodB (Lx.bs nm) && decide (role = 1 ∨ role = 2) && decide ((0 : Int) ≤ 4096 ∧ (4096 : Int) ≤ 65536)) = true
            rw [e1, e2]; rfl
          · exact h.mem m hm
theorem ok_leave {r r' : Rol} {nm : ByteArray} (h : Ok r) (e : leaveM r nm = .ok r') : Ok r' := by
  unfold leaveM at e
  split at e
  · cases e
  · split at e
    · cases e
    · injection e with e
      subst e
      refine ⟨fun m hm => h.mem m ((del_sub _ _).subset hm), fun c hc => ?_, by show (r.cs.map (lvC nm)).length ≤ 32; rw [List.length_map]; exact h.few⟩
      obtain ⟨d, hd, rfl⟩ := List.mem_map.1 hc
      exact h.cls d hd
theorem mem_set {α : Type} {l : List α} {k : Nat} {x y : α} (h : y ∈ l.set k x) : y = x ∨ y ∈ l := by
  rcases List.mem_or_eq_of_mem_set h with h | h
  · exact .inr h
  · exact .inl h
theorem ok_grant {N : Nat} {r r' : Rol} {nm : ByteArray} {q : Int} (hi : Inv N r) (h : Ok r) (e : grantM r nm q = .ok r') : Ok r' := by
  unfold grantM at e
  split at e
  · cases e
  · rename_i h1
    split at e
    · cases e
    · rename_i h2
      injection e with e
      subst e
      refine ⟨fun m hm => ?_, h.cls, h.few⟩
      rcases mem_set hm with rfl | hm
      · have hh : hasN r.names nm = true := by cases hh : hasN r.names nm with | true => rfl | false => exact absurd hh h1
        obtain ⟨a1, a2, _⟩ := okM_parts (h.mem _ (find_in hi.names hh).1)
        have e2 : decide (0 ≤ q ∧ q ≤ 65536) = true := by cases hh : decide (0 ≤ q ∧ q ≤ 65536) with | true => rfl | false => exact absurd hh h2
        show (goodB (Lx.bs (findM r nm).name) && decide ((findM r nm).role = 1 ∨ (findM r nm).role = 2) && decide (0 ≤ q ∧ q ≤ 65536)) = true
        rw [e2, decide_eq_true a2, a1]; rfl
      · exact h.mem m hm
theorem ok_open {r r' : Rol} {cl tc : ByteArray} (h : Ok r) (e : openM r cl tc = .ok r') : Ok r' := by
  unfold openM at e
  split at e
  · cases e
  · rename_i h1
    split at e
    · cases e
    · split at e
      · cases e
      · split at e
        · split at e
          · cases e
          · rename_i h5
            injection e with e
            subst e
            refine ⟨h.mem, fun c hc => ?_, ?_⟩
            · rcases (mem_ins r.cs _ _ _).1 hc with rfl | hc
              · have hg : goodB (Lx.bs cl) = true := by cases hh : goodB (Lx.bs cl) with | true => rfl | false => exact absurd hh h1
                exact hg
              · exact h.cls c hc
            · show (r.cs.take _ ++ [_] ++ r.cs.drop _).length ≤ 32
              rw [ins_length]; omega
        · cases e
theorem ok_close {r r' : Rol} {cl : ByteArray} (h : Ok r) (e : closeM r cl = .ok r') : Ok r' := by
  unfold closeM at e
  split at e
  · cases e
  · injection e with e
    subst e
    exact ⟨h.mem, fun c hc => h.cls c ((del_sub _ _).subset hc), Nat.le_trans (del_sub r.cs _).length_le h.few⟩
theorem ok_set {r : Rol} {k : Nat} {c : Cls} (h : Ok r) (hk : goodB (bs c.name) = true) : Ok ⟨r.ms, r.cs.set k c⟩ :=
  ⟨h.mem, fun d hd => by
    rcases mem_set hd with rfl | hd
    · exact hk
    · exact h.cls d hd, by show (r.cs.set k c).length ≤ 32; rw [List.length_set]; exact h.few⟩
theorem ok_join {N : Nat} {r r' : Rol} {cl st : ByteArray} (hi : Inv N r) (h : Ok r) (e : joinM r cl st = .ok r') : Ok r' := by
  unfold joinM at e
  split at e
  · cases e
  · rename_i h1
    split at e
    · cases e
    · split at e
      · split at e
        · cases e
        · injection e with e
          subst e
          have hh : hasN r.classes cl = true := by cases hh : hasN r.classes cl with | true => rfl | false => exact absurd hh h1
          have hk := plc_lt2 hi.classes hh
          exact ok_set h (by show goodB (bs (r.cs.getD _ noC).name) = true; rw [getD_cls hk]; exact h.cls _ (List.getElem_mem hk))
      · cases e
theorem ok_part {N : Nat} {r r' : Rol} {cl st : ByteArray} (hi : Inv N r) (h : Ok r) (e : partM r cl st = .ok r') : Ok r' := by
  unfold partM at e
  split at e
  · cases e
  · rename_i h1
    split at e
    · cases e
    · injection e with e
      subst e
      have hh : hasN r.classes cl = true := by cases hh : hasN r.classes cl with | true => rfl | false => exact absurd hh h1
      have hk := plc_lt2 hi.classes hh
      exact ok_set h (by show goodB (bs (r.cs.getD _ noC).name) = true; rw [getD_cls hk]; exact h.cls _ (List.getElem_mem hk))
theorem ok_do {N : Nat} {r r' : Rol} {d : Dd} (hi : Inv N r) (h : Ok r) (e : doM r d = .ok r') : Ok r' := by
  unfold doM at e
  have h6 := (kN_is d).2
  generalize kN d = k at e h6
  have hk : k = 0 ∨ k = 1 ∨ k = 2 ∨ k = 3 ∨ k = 4 ∨ k = 5 ∨ k = 6 := by omega
  rcases hk with rfl | rfl | rfl | rfl | rfl | rfl | rfl
  · exact ok_enrol h e
  · exact ok_leave h e
  · exact ok_grant hi h e
  · exact ok_open h e
  · exact ok_close h e
  · exact ok_join hi h e
  · exact ok_part hi h e
theorem no_false {α : Type} (l : List α) (d : α) (f : α → Bool) (h : ∀ x ∈ l, f x = true) : (List.range l.length).any (fun i => !f (l.getD i d)) = false := by
  rw [Bool.eq_false_iff]
  intro h2
  obtain ⟨i, hi, h3⟩ := List.any_eq_true.1 h2
  have hl := List.mem_range.1 hi
  rw [List.getD_eq_getElem?_getD, List.getElem?_eq_getElem hl, Option.getD_some, h _ (List.getElem_mem hl)] at h3
  cases h3
theorem has_is {N : Nat} {r : Rol} (hi : Inv N r) {nm : ByteArray} {k : Int} (h : ∃ m ∈ r.ms, m.name = nm ∧ m.role = k) : hasR r nm k = true := by
  obtain ⟨m, hm, h1, h2⟩ := h
  have hh : hasN r.names nm = true := hasN_iff.2 (List.mem_map.2 ⟨m, hm, h1⟩)
  obtain ⟨f1, f2⟩ := find_in hi.names hh
  have e := rising_eq (fun m : Mem => m.name) (show Rising (r.ms.map fun m => m.name) from hi.names) f1 hm (f2.trans h1.symm)
  unfold hasR
  rw [hh, e, h2]
  simp
theorem ok_okR {N : Nat} {r : Rol} (hi : Inv N r) (h : Ok r) : okR r = true := by
  unfold okR
  have e1 : risB r.names = true := risB_ris.2 hi.names
  have e2 := no_false r.ms ⟨⟨#[]⟩, 0, 0⟩ okM h.mem
  have e3 : risB r.classes = true := risB_ris.2 hi.classes
  have e4 := no_false r.cs nilC (okC r) fun c hc => by
    unfold okC
    have a1 := h.cls c hc
    have a2 := has_is hi (hi.teach c hc)
    have a3 : risB c.studs = true := risB_ris.2 (hi.rising c hc)
    have a4 := no_false c.studs ⟨#[]⟩ (fun s => hasR r s 1) fun s hs => has_is hi (hi.stud c hc s hs)
    have a1' : Lx.goodB (bs c.name) = true := a1
    rw [a1', a2, a3, a4]; rfl
  rw [e1, e2, e3, e4]; rfl
theorem name_size {N : Nat} {r : Rol} (hi : Inv N r) (h : Ok r) {nm : ByteArray} (hm : ∃ m ∈ r.ms, m.name = nm) : nm.size ≤ 32 := by
  obtain ⟨m, h1, rfl⟩ := hm
  exact (good_size (okM_parts (h.mem m h1)).1).2
theorem eText_small {l : List UInt8} (h : l.length ≤ 65536) : eText l = some (Oct.qT l) := by
  unfold eText Oct.eLen eInt Oct.qT
  rw [if_neg (by omega), if_neg (by unfold Oct.rng; omega)]
  rfl
theorem ok_put {N : Nat} {r : Rol} (hi : Inv N r) (h : Ok r) (hN : N ≤ 60) : putR r = some (qPut r) := by
  refine put_all r (by have := hi.lm; omega) (by have := hi.lc; omega) (fun m hm => ?_) (fun c hc => ?_)
  · obtain ⟨a1, a2, a3, a4⟩ := okM_parts (h.mem m hm)
    have hs := (good_size a1).2
    unfold pMem qMem
    rw [eText_small (l := Oct.bs m.name) (by show m.name.size ≤ 65536; omega)]
    unfold eInt
    rw [if_neg (by unfold Oct.rng; omega), if_neg (by unfold Oct.rng; omega), qText_is]
    rfl
  · have hs := (good_size (h.cls c hc)).2
    obtain ⟨m, m1, m2, _⟩ := hi.teach c hc
    have ht := name_size hi h ⟨m, m1, m2⟩
    have hl := hi.ls c hc
    unfold pCls qCls qStrs
    rw [eText_small (l := Oct.bs c.name) (by show c.name.size ≤ 65536; omega), eText_small (l := Oct.bs c.teacher) (by show c.teacher.size ≤ 65536; omega), Oct.eTexts_all c.studs (by omega) (fun x hx => by
      obtain ⟨m, m1, m2, _⟩ := hi.stud c hc x hx
      have := name_size hi h ⟨m, m1, m2⟩
      exact eText_small (l := Oct.bs x) (by show x.size ≤ 65536; omega)), qText_is, qText_is]
    simp [app]
    rfl
theorem ok_size {N : Nat} {r : Rol} (hi : Inv N r) (h : Ok r) (hN : N ≤ 60) : (qPut r).length ≤ BIG := by
  have e := ok_put hi h hN
  have h1 : Oct.len (putR r) ≤ 8 + 65560 * r.ms.length + (8 + 4300200000 * r.cs.length) := by
    unfold putR
    have a := Oct.len_app (app (eInt r.ms.length) (pMems r.ms r.ms.length)) (app (eInt r.cs.length) (pClss r.cs r.cs.length))
    have b := Oct.len_app (eInt r.ms.length) (pMems r.ms r.ms.length)
    have c := Oct.len_app (eInt r.cs.length) (pClss r.cs r.cs.length)
    have d := Oct.len_eInt r.ms.length
    have f := Oct.len_eInt r.cs.length
    have g := len_pMems r.ms r.ms.length
    have k := len_pClss r.cs r.cs.length
    omega
  rw [e] at h1
  have h2 : Oct.len (some (qPut r)) = (qPut r).length := rfl
  rw [h2] at h1
  have := hi.lm
  have := hi.lc
  unfold BIG
  have h3 : 65560 * r.ms.length ≤ 65560 * 60 := Nat.mul_le_mul_left _ (by omega)
  have h4 : 4300200000 * r.cs.length ≤ 4300200000 * 60 := Nat.mul_le_mul_left _ (by omega)
  omega
/-- What is put is got again. -/
theorem ok_back {N : Nat} {r : Rol} (hi : Inv N r) (h : Ok r) (hN : N ≤ 60) : getR (qPut r) = .ok r :=
  get_put r (by have := hi.lm; omega) h.few (fun c hc => by have := hi.ls c hc; omega) (ok_okR hi h) _ (ok_put hi h hN)
theorem ok_ne {N : Nat} {r : Rol} (hi : Inv N r) (h : Ok r) {nm : ByteArray} (hh : hasN r.names nm = true) : nm ≠ ⟨#[]⟩ := by
  obtain ⟨f1, f2⟩ := find_in hi.names hh
  have := (good_size (okM_parts (h.mem _ f1)).1).1
  rw [f2] at this
  intro e
  rw [e] at this
  exact absurd this (by decide)
end Go.Proofs.YtnmhgjoofgmcgaaGreat.Rl

namespace Go.Proofs.YtnmhgjoofgmcgaaGreat.Rl
open Go.RowKit
open Fx (StrsAt)
set_option maxRecDepth 100000
set_option linter.unusedSimpArgs false
set_option linter.unusedVariables false
/-- The class of a name; none. -/
def findC (r : Rol) (nm : ByteArray) : Cls := if hasN r.classes nm = true then r.cs.getD (plc r.classes nm) ⟨⟨#[]⟩, ⟨#[]⟩, []⟩ else ⟨⟨#[]⟩, ⟨#[]⟩, []⟩
theorem all_under {P : Nat → Prop} {W W' : World} {raws : List CRaw} {cs : List Cls} (h : AllC P W raws cs) (b : Below W.heap.size W W') : AllC P W' raws cs :=
  h.keep b.size fun r hp hr => ⟨hp, fun j => b.cell (p := ⟨r, j, none⟩) hr⟩
theorem plcC_lt {r : Rol} {nm : ByteArray} (hs : Rising r.classes) (h : hasN r.classes nm = true) : plc r.classes nm < r.cs.length := by
  obtain ⟨h1, _⟩ := (plc_mem r.classes nm hs).2 (hasN_iff.1 h)
  simpa [Rol.classes] using h1
set_option maxHeartbeats 8000000 in
theorem Class_any (r : Rol) (nm : ByteArray) (P : Nat → Prop) (W : World) (v : Value) (h : RlAt P W r v) (hs : Rising r.classes) (hn : r.cs.length ≤ 4096) (hst : ∀ c ∈ r.cs, c.studs.length ≤ 4096) :
    Calls Tryz.prog 14 #[v, .string nm] W fun e w' => ∃ A c, e = .returned (.tuple #[.agg #[.string (findC r nm).name, .string (findC r nm).teacher, .slice A (findC r nm).studs.length c], .bool (hasN r.classes nm)]) ∧ Below W.heap.size W w' := by
  obtain ⟨Am, cm, Ac, cc, rfl, hms, hcs⟩ := h.form
  obtain ⟨n, hnn⟩ : ∃ n, n = r.ms.length := ⟨_, rfl⟩
  obtain ⟨m, hmm⟩ : ∃ m, m = r.cs.length := ⟨_, rfl⟩
  rw [← hnn, ← hmm] at h
  rw [← hnn, ← hmm]
  obtain ⟨raws, hrow, hall⟩ := hcs
  have hrl : raws.length = m := hall.1.trans hmm.symm
  rw [← hmm] at hrow hn
  obtain ⟨V, hV⟩ : ∃ V, V = (W.alloc (.cells #[.slice Am n cm, .slice Ac m cc] 27)).alloc (.cells #[.string ⟨#[]⟩, .string ⟨#[]⟩, .slice none 0 0] 53) := ⟨_, rfl⟩
  have hb : Below W.heap.size W V := by rw [hV]; exact ((Below.refl _ W).alloc (Nat.le_refl _) _).alloc (by simp) _
  have hx0 : V.heap[W.heap.size]? = some (.cells #[.slice Am n cm, .slice Ac m cc] 27 (0, 0)) := by rw [hV]; exact (heap_alloc_old _ _ (by simp)).trans (heap_alloc_new W _)
  have hx1 : V.heap[W.heap.size + 1]? = some (.cells #[.string ⟨#[]⟩, .string ⟨#[]⟩, .slice none 0 0] 53 (0, 0)) := by
    rw [hV]; have := heap_alloc_new (W.alloc (.cells #[.slice Am n cm, .slice Ac m cc] 27)) (.cells #[.string ⟨#[]⟩, .string ⟨#[]⟩, .slice none 0 0] 53); simpa using this
  obtain ⟨k, hk⟩ : ∃ k, k = plc r.classes nm := ⟨_, rfl⟩
  obtain ⟨fd, hfd⟩ : ∃ fd, fd = hasN r.classes nm := ⟨_, rfl⟩
  obtain ⟨x, hx⟩ : ∃ x, x = findC r nm := ⟨_, rfl⟩
  have HMB := Lib.hid (class_any r nm P V (.agg #[.slice Am n cm, .slice Ac m cc]) (h.under hb) hs (by rw [← hmm]; omega))
  rw [← hk, ← hfd] at HMB
  rw [← hfd, ← hx]
  have hxk : fd = true → k < m ∧ ∀ hkl : k < r.cs.length, x = r.cs[k] := fun h1 => by
    rw [hfd] at h1
    have h2 := plcC_lt hs h1
    rw [← hk] at h2
    refine ⟨by rw [hmm]; exact h2, fun hkl => ?_⟩
    rw [hx]
    unfold findC
    rw [if_pos h1, ← hk, List.getD_eq_getElem?_getD, List.getElem?_eq_getElem hkl]
    rfl
  have hx0' : fd = false → x = ⟨⟨#[]⟩, ⟨#[]⟩, []⟩ := fun h1 => by
    rw [hx]
    unfold findC
    rw [← hfd, h1]
    rfl
  have HXK := Lib.hid hxk
  have HX0' := Lib.hid hx0'
  have HMM := Lib.hid hmm
  have HRL := Lib.hid hrl
  have HST := Lib.hid hst
  have HAL := Lib.hid hall
  have HRO := Lib.hid (RowAt.under hrow hb)
  have HV := Lib.hid hV
  have HB := Lib.hid hb
  have HX0 := Lib.hid hx0
  have HX1 := Lib.hid hx1
  have x0 := cell_of_row _ _ 0 _ _ (0, 0) hx0
  have x1 := cell_of_row _ _ 1 _ _ (0, 0) hx0
  clear hV hx0 hx1 h hnn hmm hk hfd hx hxk hx0' hms hrow hs hrl hst hall
  go_enter Tryz.func14, Tryz.ntmps14
  go_upto_region 1 with fail
  rw [← HV.out]
  go_wp2_with fail
  refine HMB.out.mono ?_
  rintro e w2 ⟨rfl, hb2⟩
  have hy0 := (hb2.block _ (Gn.heap_lt HX0.out)).trans HX0.out
  have hy1 := (hb2.block _ (Gn.heap_lt HX1.out)).trans HX1.out
  have HY1 := Lib.hid hy1
  have HB2 := Lib.hid (HB.out.trans (hb2.mono HB.out.size))
  have HM2 := Lib.hid (HRO.out.under hb2)
  have HA2 := Lib.hid (all_under (all_under HAL.out hb) hb2)
  have HZ := Lib.hid (show V.heap.size ≤ w2.heap.size from hb2.size)
  have HZV := Lib.hid (show W.heap.size + 1 < V.heap.size from Gn.heap_lt HX1.out)
  have r0 := cell_of_row _ _ 0 _ _ (0, 0) hy1
  have r1 := cell_of_row _ _ 1 _ _ (0, 0) hy1
  have r2 := cell_of_row _ _ 2 _ _ (0, 0) hy1
  have g0 := Gn.frozen_row hy1 0
  have g1 := Gn.frozen_row hy1 1
  have g2 := Gn.frozen_row hy1 2
  have y0 := cell_of_row _ _ 0 _ _ (0, 0) hy0
  have y1 := cell_of_row _ _ 1 _ _ (0, 0) hy0
  clear hb2 hy0 hy1 x0 x1 hb
  cases fd with
  | false =>
    have hx := HX0'.out rfl
    subst hx
    have HRS := Lib.hid (fun a b c => Gn.heap_set (Gn.heap_set (Gn.heap_set HY1.out 0 a) 1 b) 2 c)
    have HBE := Lib.hid (fun a b c => ((HB2.out.setCell (p := ⟨W.heap.size + 1, 0, none⟩) (by simp) a).setCell (p := ⟨W.heap.size + 1, 1, none⟩) (by simp) b).setCell (p := ⟨W.heap.size + 1, 2, none⟩) (by simp) c)
    clear HXK HX0'
    go_wp2_with fail
    refine bodyPost_ret (results_ct (P := Tryz.prog) rfl _ _ (W.heap.size + 1) 53 _ (0, 0) _ _ rfl rfl (HRS.out _ _ _) Tryz.underlying53 rfl (by kernel_rfl)) rfl ?_
    exact ⟨⟨_, _, rfl⟩, HBE.out _ _ _⟩
  | true =>
    obtain ⟨hkn, hxe⟩ := HXK.out rfl
    have hkl : k < r.cs.length := by rw [← HMM.out]; exact hkn
    have hkr : k < raws.length := by rw [HRL.out]; exact hkn
    have hkn2 : (k : Int) < (m : Int) := by omega
    obtain ⟨A5, c5, b5, h5, _, _, h5c, h5d⟩ := HM2.out
    rw [HRL.out] at h5 h5c
    injection h5 with h5 _ h5k
    subst h5
    subst h5k
    obtain ⟨rfl, _, _⟩ := h5c (by omega)
    have k0 := h5d k hkr 0 _ rfl
    have k1 := h5d k hkr 1 _ rfl
    have k2 := h5d k hkr 2 _ rfl
    rw [Nat.add_zero] at k0
    obtain ⟨e1, e2, e3⟩ := HA2.out.2 k hkr hkl
    have hxl := HST.out _ (List.getElem_mem hkl)
    rw [← hxe hkl] at e1 e2 e3 hxl
    rw [e1] at k0
    rw [e2] at k1
    obtain ⟨A7, c7, e7⟩ := e3.form
    rw [e7] at k2 e3
    have HCP := Lib.hid (fun w (b : Below w2.heap.size w2 w) => ccopy_any x.name x.teacher x.studs _ w _ (e3.under b) hxl)
    obtain ⟨xn, xt, xs⟩ := x
    dsimp only at k0 k1 k2 HCP
    clear HXK HX0' h5c h5d hxe hkl hkr e1 e2 e3 e7 hxl HAL HRO
    go_wp2_with fail
    refine (HCP.out _ (Below.refl _ _)).mono ?_
    rintro e w4 ⟨v4, rfl, ho, hb4⟩
    obtain ⟨A4, c4, rfl⟩ := Gn.slice_of ho
    have hy1 := (hb4.block _ (Gn.heap_lt HY1.out)).trans HY1.out
    have HB4 := Lib.hid (HB2.out.trans (hb4.mono HB2.out.size))
    have HRS := Lib.hid (fun a b c => Gn.heap_set (Gn.heap_set (Gn.heap_set hy1 0 a) 1 b) 2 c)
    have HBE := Lib.hid (fun a b c => ((HB4.out.setCell (p := ⟨W.heap.size + 1, 0, none⟩) (by simp) a).setCell (p := ⟨W.heap.size + 1, 1, none⟩) (by simp) b).setCell (p := ⟨W.heap.size + 1, 2, none⟩) (by simp) c)
    clear r0 r1 r2 g0 g1 g2 y0 y1 k0 k1 k2
    have r0 := cell_of_row _ _ 0 _ _ (0, 0) hy1
    have r1 := cell_of_row _ _ 1 _ _ (0, 0) hy1
    have r2 := cell_of_row _ _ 2 _ _ (0, 0) hy1
    have g0 := Gn.frozen_row hy1 0
    have g1 := Gn.frozen_row hy1 1
    have g2 := Gn.frozen_row hy1 2
    clear hy1 ho hb4
    go_wp2_with fail
    refine bodyPost_ret (results_ct (P := Tryz.prog) rfl _ _ (W.heap.size + 1) 53 _ (0, 0) _ _ rfl rfl (HRS.out _ _ _) Tryz.underlying53 rfl (by kernel_rfl)) rfl ?_
    exact ⟨⟨_, _, rfl⟩, HBE.out _ _ _⟩
end Go.Proofs.YtnmhgjoofgmcgaaGreat.Rl

namespace Go.Proofs.YtnmhgjoofgmcgaaGreat.Rl
open Go.RowKit
open Fx (StrsAt)
set_option maxRecDepth 100000
set_option linter.unusedSimpArgs false
set_option linter.unusedVariables false
/-- Both rolls, each in its box. -/
structure TwoAt (W : World) (B C : Nat) (w : World) (r : Rol) (vm vc wm wc : Value) : Prop where
  bx : w.heap[B]? = some (.cells #[vm, vc] 27 (0, 0))
  bz : w.heap[C]? = some (.cells #[wm, wc] 31 (0, 0))
  rl : RlAt (fun b => C < b) w r (.agg #[vm, vc])
  rd : RlAt (fun b => C < b) w r (.agg #[wm, wc])
  bel : Below W.heap.size W w
  lo : W.heap.size ≤ B
  ne : B < C
theorem form2 {P : Nat → Prop} {w : World} {r : Rol} {x y : Value} (h : RlAt P w r (.agg #[x, y])) : ∃ A1 c1 A2 c2, x = .slice A1 r.ms.length c1 ∧ y = .slice A2 r.cs.length c2 := by
  obtain ⟨A1, c1, A2, c2, e, _, _⟩ := h.form
  injection e with e
  injection e with e
  injection e with e1 e2
  injection e2 with e2
  exact ⟨A1, c1, A2, c2, e1, e2⟩
section
variable {W : World} {B C : Nat} {w w' wx w3 : World} {r : Rol} {vm vc wm wc : Value}
theorem TwoAt.under (h : TwoAt W B C w r vm vc wm wc) (b : Below w.heap.size w w') : TwoAt W B C w' r vm vc wm wc :=
  ⟨(b.block _ (Gn.heap_lt h.bx)).trans h.bx, (b.block _ (Gn.heap_lt h.bz)).trans h.bz, h.rl.under b, h.rd.under b, h.bel.trans (b.mono h.bel.size), h.lo, h.ne⟩
theorem TwoAt.cells (h : TwoAt W B C w r vm vc wm wc) : w.cell? ⟨B, 0, none⟩ = some vm ∧ w.cell? ⟨B, 1, none⟩ = some vc ∧ w.cell? ⟨C, 0, none⟩ = some wm ∧ w.cell? ⟨C, 1, none⟩ = some wc :=
  ⟨cell_of_row _ _ 0 _ _ (0, 0) h.bx, cell_of_row _ _ 1 _ _ (0, 0) h.bx, cell_of_row _ _ 0 _ _ (0, 0) h.bz, cell_of_row _ _ 1 _ _ (0, 0) h.bz⟩
/-- A new box. -/
structure NewAt (w wx : World) (q : Nat) (T : TypeId) (vs : Array Value) : Prop where
  bel : Below w.heap.size w wx
  hi : w.heap.size ≤ q
  box : wx.heap[q]? = some (.cells vs T (0, 0))
/-- A roll in a new box. -/
structure NewRl (w wx : World) (q : Nat) (T : TypeId) (r : Rol) (x y : Value) : Prop where
  nw : NewAt w wx q T #[x, y]
  rl : RlAt (fun b => w.heap.size ≤ b) wx r (.agg #[x, y])
theorem NewAt.drew {q : Nat} {T : TypeId} {vs : Array Value} (h : NewAt w.drew wx q T vs) : NewAt w wx q T vs := ⟨(Gn.below_drew (Below.refl _ _)).trans (h.bel.mono (Nat.le_refl _)), h.hi, h.box⟩
theorem NewRl.drew {q : Nat} {T : TypeId} {x y : Value} (h : NewRl w.drew wx q T r x y) : NewRl w wx q T r x y := ⟨h.nw.drew, h.rl⟩
theorem NewAt.late {T : TypeId} (vs : Array Value) (hb : Below w.heap.size w w3) : NewAt w (w3.alloc (.cells vs T)) w3.heap.size T vs :=
  ⟨hb.trans (((Below.refl _ _).alloc (Nat.le_refl _) _).mono hb.size), hb.size, heap_alloc_new _ _⟩
theorem NewRl.late {T : TypeId} {x y : Value} (hr : RlAt (fun b => w.heap.size ≤ b) w3 r (.agg #[x, y])) (hb : Below w.heap.size w w3) : NewRl w (w3.alloc (.cells #[x, y] T)) w3.heap.size T r x y :=
  ⟨NewAt.late _ hb, hr.under ((Below.refl _ _).alloc (Nat.le_refl _) _)⟩
theorem early_bel {o : Obj} (hb : Below (w.alloc o).heap.size (w.alloc o) w3) : Below w.heap.size w w3 := by
  have b0 : Below w.heap.size w (w.alloc o) := (Below.refl _ _).alloc (Nat.le_refl _) _
  exact b0.trans (hb.mono b0.size)
theorem NewAt.early2 {T : TypeId} {o : Obj} (x y : Value) (hb : Below (w.alloc o).heap.size (w.alloc o) w3) {z1 z2 : Value} (hx : w3.heap[w.heap.size]? = some (.cells #[z1, z2] T (0, 0))) : NewAt w ((w3.setCell ⟨w.heap.size, 0, none⟩ x).setCell ⟨w.heap.size, 1, none⟩ y) w.heap.size T #[x, y] :=
  ⟨((early_bel hb).setCell (Nat.le_refl _) _).setCell (Nat.le_refl _) _, Nat.le_refl _, Gn.heap_set (Gn.heap_set hx 0 _) 1 _⟩
theorem NewAt.early3 {T : TypeId} {o : Obj} (x y z : Value) (hb : Below (w.alloc o).heap.size (w.alloc o) w3) {z1 z2 z3 : Value} (hx : w3.heap[w.heap.size]? = some (.cells #[z1, z2, z3] T (0, 0))) : NewAt w (((w3.setCell ⟨w.heap.size, 0, none⟩ x).setCell ⟨w.heap.size, 1, none⟩ y).setCell ⟨w.heap.size, 2, none⟩ z) w.heap.size T #[x, y, z] :=
  ⟨(((early_bel hb).setCell (Nat.le_refl _) _).setCell (Nat.le_refl _) _).setCell (Nat.le_refl _) _, Nat.le_refl _, Gn.heap_set (Gn.heap_set (Gn.heap_set hx 0 _) 1 _) 2 _⟩
theorem NewRl.early {T : TypeId} {o : Obj} {x y : Value} (hr : RlAt (fun b => (w.alloc o).heap.size ≤ b) w3 r (.agg #[x, y])) (hb : Below (w.alloc o).heap.size (w.alloc o) w3) {z1 z2 : Value} (hx : w3.heap[w.heap.size]? = some (.cells #[z1, z2] T (0, 0))) : NewRl w ((w3.setCell ⟨w.heap.size, 0, none⟩ x).setCell ⟨w.heap.size, 1, none⟩ y) w.heap.size T r x y := by
  have hsz : (w.alloc o).heap.size = w.heap.size + 1 := by simp
  exact ⟨NewAt.early2 x y hb hx, hr.keep (by simp [World.setCell]) fun q hq _ => ⟨by omega, fun j => Gn.cell_same ((Gn.set_keep _ _ _ (by show w.heap.size ≠ q; omega)).trans (Gn.set_keep _ _ _ (by show w.heap.size ≠ q; omega))) j⟩⟩
/-- What was told is both rolls' from here on. -/
theorem TwoAt.next (h : TwoAt W B C w r vm vc wm wc) {r' : Rol} {x y u v : Value} (h1 : RlAt (fun b => C < b) w r' (.agg #[x, y])) (h2 : RlAt (fun b => C < b) w r' (.agg #[u, v])) {w9 : World}
    (hw : w9 = (((w.setCell ⟨B, 0, none⟩ x).setCell ⟨B, 1, none⟩ y).setCell ⟨C, 0, none⟩ u).setCell ⟨C, 1, none⟩ v ∨ w9 = (((w.setCell ⟨C, 0, none⟩ u).setCell ⟨C, 1, none⟩ v).setCell ⟨B, 0, none⟩ x).setCell ⟨B, 1, none⟩ y) : TwoAt W B C w9 r' x y u v := by
  have hne := h.ne
  have hlo := h.lo
  rcases hw with rfl | rfl
  · refine ⟨((Gn.set_keep _ _ _ (by show C ≠ B; omega)).trans (Gn.set_keep _ _ _ (by show C ≠ B; omega))).trans (Gn.heap_set (Gn.heap_set h.bx 0 _) 1 _), Gn.heap_set (Gn.heap_set (((Gn.set_keep _ _ _ (by show B ≠ C; omega)).trans (Gn.set_keep _ _ _ (by show B ≠ C; omega))).trans h.bz) 0 _) 1 _, ?_, ?_, (((h.bel.setCell hlo _).setCell hlo _).setCell (by show _ ≤ C; omega) _).setCell (by show _ ≤ C; omega) _, hlo, hne⟩
    · exact h1.keep (by simp [World.setCell]) fun b hb _ => ⟨hb, fun j => Gn.cell_same ((((Gn.set_keep _ _ _ (by show C ≠ b; omega)).trans (Gn.set_keep _ _ _ (by show C ≠ b; omega))).trans (Gn.set_keep _ _ _ (by show B ≠ b; omega))).trans (Gn.set_keep _ _ _ (by show B ≠ b; omega))) j⟩
    · exact h2.keep (by simp [World.setCell]) fun b hb _ => ⟨hb, fun j => Gn.cell_same ((((Gn.set_keep _ _ _ (by show C ≠ b; omega)).trans (Gn.set_keep _ _ _ (by show C ≠ b; omega))).trans (Gn.set_keep _ _ _ (by show B ≠ b; omega))).trans (Gn.set_keep _ _ _ (by show B ≠ b; omega))) j⟩
  · refine ⟨Gn.heap_set (Gn.heap_set (((Gn.set_keep _ _ _ (by show C ≠ B; omega)).trans (Gn.set_keep _ _ _ (by show C ≠ B; omega))).trans h.bx) 0 _) 1 _, ((Gn.set_keep _ _ _ (by show B ≠ C; omega)).trans (Gn.set_keep _ _ _ (by show B ≠ C; omega))).trans (Gn.heap_set (Gn.heap_set h.bz 0 _) 1 _), ?_, ?_, (((h.bel.setCell (by show _ ≤ C; omega) _).setCell (by show _ ≤ C; omega) _).setCell hlo _).setCell hlo _, hlo, hne⟩
    · exact h1.keep (by simp [World.setCell]) fun b hb _ => ⟨hb, fun j => Gn.cell_same ((((Gn.set_keep _ _ _ (by show B ≠ b; omega)).trans (Gn.set_keep _ _ _ (by show B ≠ b; omega))).trans (Gn.set_keep _ _ _ (by show C ≠ b; omega))).trans (Gn.set_keep _ _ _ (by show C ≠ b; omega))) j⟩
    · exact h2.keep (by simp [World.setCell]) fun b hb _ => ⟨hb, fun j => Gn.cell_same ((((Gn.set_keep _ _ _ (by show B ≠ b; omega)).trans (Gn.set_keep _ _ _ (by show B ≠ b; omega))).trans (Gn.set_keep _ _ _ (by show C ≠ b; omega))).trans (Gn.set_keep _ _ _ (by show C ≠ b; omega))) j⟩
/-- What a class's place of the document's roll holds. -/
theorem TwoAt.class_ (h : TwoAt W B C w r vm vc wm wc) {j : Nat} (hj : j < r.cs.length) : ∃ (g4 c4 : Nat) (A6 : Option Addr) (c6 : Nat), wc = .slice (some ⟨g4, 0, none⟩) r.cs.length c4 ∧ r.cs.length ≤ c4 ∧ g4 < w.heap.size ∧ w.cell? ⟨g4, j * 3 + 1, none⟩ = some (.string r.cs[j].teacher) ∧ w.cell? ⟨g4, j * 3 + 2, none⟩ = some (.slice A6 r.cs[j].studs.length c6) ∧ StrsAt (fun b => C < b) w r.cs[j].studs (.slice A6 r.cs[j].studs.length c6) := by
  obtain ⟨vm', vc', e, _, raws, h1, h2⟩ := h.rd
  injection e with e
  injection e with e
  injection e with _ e
  injection e with e
  subst e
  obtain ⟨A, cap, b, rfl, hcap, _, hA, hc⟩ := h1
  have hl := h2.1
  have hr : j < raws.length := by rw [hl]; exact hj
  obtain ⟨rfl, hb, _⟩ := hA (by omega)
  obtain ⟨n1, n2, n3⟩ := h2.2 j hr hj
  obtain ⟨A6, c6, e6⟩ := n3.form
  have k1 := hc j hr 1 (.string raws[j].teacher) rfl
  have k2 := hc j hr 2 raws[j].studs rfl
  rw [n2] at k1
  rw [e6] at k2 n3
  exact ⟨b, cap, A6, c6, by rw [hl], by omega, hb, k1, k2, n3⟩
end
/-- Does a class that was passed teach? -/
def taughtBy (r : Rol) (t s : ByteArray) (j : Nat) : Bool := (r.cs.take j).any (fun c => decide (c.teacher = t) && hasN c.studs s)
theorem taught_succ (r : Rol) (t s : ByteArray) (j : Nat) (h : j < r.cs.length) : taughtBy r t s (j + 1) = (taughtBy r t s j || (decide (r.cs[j].teacher = t) && hasN r.cs[j].studs s)) := by
  unfold taughtBy
  rw [List.take_succ_eq_append_getElem h, List.any_append]
  simp
theorem taught_all (r : Rol) (t s : ByteArray) (j : Nat) (h : r.cs.length ≤ j) : taughtBy r t s j = teachesM r t s := by
  unfold taughtBy teachesM
  rw [List.take_of_length_le h]
end Go.Proofs.YtnmhgjoofgmcgaaGreat.Rl
