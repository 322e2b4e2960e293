/-
  Layer 27: the walk of NetworkPlays.
-/
import Derived.Test.YtdkigbaodbkebaaNtL
import Derived.OwnWalk
namespace Go.Proofs.Ytdkigbaodbkebaa.Nt
open Go.RowKit
set_option maxRecDepth 100000
set_option linter.unusedSimpArgs false
set_option linter.unusedVariables false
set_option maxHeartbeats 64000000 in
theorem plays_walk (l : List Ac) (fill : Int) (w : World) (v : Value) (hv : AcsIn w l v) :
    Calls Try.prog 3 #[v, .int .i64 fill] w fun e w' => e = .returned (.bool true) ∧ Below w.heap.size w w' := by
  obtain ⟨i0, hi0, hz0, hz1, hz2⟩ := info_split rf_info
  obtain ⟨A0, cap0, eb, off, rfl, hA, hcells⟩ := hv
  obtain ⟨n, hn⟩ : ∃ n, n = l.length := ⟨_, rfl⟩
  have HC := Lib.hid (fun (k : Nat) (hk : k < l.length) (w' : World) (b : Below w.heap.size w w') => show w'.cell? ⟨eb, off + k * 5, none⟩ = some (.int .i64 l[k].what) ∧ w'.cell? ⟨eb, off + k * 5 + 1, none⟩ = some (.int .i64 l[k].i) ∧ w'.cell? ⟨eb, off + k * 5 + 2, none⟩ = some (.int .i64 l[k].at_) ∧ w'.cell? ⟨eb, off + k * 5 + 3, none⟩ = some (.int .u32 ((l[k].by_ : Nat) : Int)) ∧ w'.cell? ⟨eb, off + k * 5 + 4, none⟩ = some (.string l[k].text) from by
    obtain ⟨e0, e1, e2, e3, e4⟩ := hcells k hk
    have hb := (hA (by omega)).2
    exact ⟨(b.cell (p := ⟨eb, off + k * 5, none⟩) hb).trans e0, (b.cell (p := ⟨eb, off + k * 5 + 1, none⟩) hb).trans e1, (b.cell (p := ⟨eb, off + k * 5 + 2, none⟩) hb).trans e2, (b.cell (p := ⟨eb, off + k * 5 + 3, none⟩) hb).trans e3, (b.cell (p := ⟨eb, off + k * 5 + 4, none⟩) hb).trans e4⟩)
  have HA := Lib.hid (fun h => (hA h).1)
  rw [← hn]
  have HN0 := Lib.hid hn
  clear hA hcells hn
  obtain ⟨fm, hfm⟩ : ∃ x, x = bits .and .i64 fill 15 := ⟨_, rfl⟩
  have hfm2 := hfm.symm
  obtain ⟨fc, hfc⟩ : ∃ x, (fm == 15) = x := ⟨_, rfl⟩
  clear hfm
  go_enter Try.func3, Try.ntmps3
  go_wp2_with fail
  refine (speaks_any w).mono ?_
  rintro e w1 ⟨rfl, b1⟩
  have hnt := not_run true w1
  obtain ⟨V, hV⟩ : ∃ x, x = w1.alloc (.cells #[.slice none 0 0] 26) := ⟨_, rfl⟩
  obtain ⟨b, hb⟩ : ∃ x, x = w1.heap.size := ⟨_, rfl⟩
  have h0 := net_new w1
  rw [← hV, ← hb] at h0
  have HPS := Lib.hid (show PS w b [] [] (.slice none 0 0) V from ⟨h0, World.ownsRow_nil _ _ _ _, by rw [hV]; exact b1.alloc b1.size _, by rw [hb]; exact b1.size⟩)
  have HV := Lib.hid hV
  have HB := Lib.hid hb
  clear hV hb h0 b1
  go_upto_region 5 with fail
  rw [← HV.out, ← HB.out]
  clear hnt
  go_upto_if 26 with fail
  go_cut [6, 7] from 27 to 37 (fun sv _ wx => ∃ (fs : List Fr) (A : Option Addr) (cap : Nat), sv = .slice A fs.length cap ∧ PS w b fs fs (.slice A fs.length cap) wx ∧ Lst fs)
  case first =>
    cases fc with
    | false =>
      go_wp2_with fail
      go_meet
      case rel => exact ⟨[], none, 0, rfl, HPS.out, Lst.nil⟩
    | true =>
      as_aux_lemma =>
      go_wp2_with fail
      go_loopw [6, 7] (fun sv i wr => ∃ (k : Nat) (A : Option Addr) (cap : Nat), k ≤ 1022 ∧ sv = .slice A k cap ∧ i = .int .i64 k ∧ PS w b (fillL k) (fillL k) (.slice A k cap) wr) (fun _ i _ => 1022 - (intOf i).toNat)
      case atStart => exact ⟨0, none, 0, by omega, rfl, rfl, HPS.out⟩
      case round =>
        obtain ⟨k, A, cap, hk, rfl, rfl, hps⟩ := hrel
        have HP := Lib.hid hps
        clear hps
        by_cases hlt : k < 1022
        · have hlt2 : (k : Int) < 1022 := by omega
          have HLN := Lib.hid (fillL_len k)
          go_wp2_with fail
          refine (send_few HP.out.net k 0 ⟨#[120]⟩ (by rw [fillL_len]; omega) HP.out.size).mono ?_
          rintro e w2 ⟨rfl, h2, s2⟩
          rw [← fillL_succ] at h2
          have HP2 := Lib.hid (HP.out.deed h2 s2)
          have hbd := rf_build2 k ⟨#[120]⟩ w2
          obtain ⟨w3, hw3⟩ : ∃ x, x = w2.alloc (.cells #[.int .i64 k, .int .i64 0, .string ⟨#[120]⟩, .bool false] 30) := ⟨_, rfl⟩
          have hb3 : Below w2.heap.size w2 w3 := by rw [hw3]; exact (Below.refl _ _).alloc (Nat.le_refl _) _
          have HP3 := Lib.hid (HP2.out.below hb3)
          have HNEW := Lib.hid (four_newT w3 ⟨k, 0, ⟨#[120]⟩, false⟩ (q := w2.heap.size) (by rw [hw3]; exact heap_alloc_new _ _))
          have HONE := Lib.hid (frC_one ⟨k, 0, ⟨#[120]⟩, false⟩)
          have HROW := Lib.hid HP3.out.row
          rw [HLN.out] at HROW
          have HSZ := Lib.hid HP3.out.size
          rw [hw3] at HNEW HROW HSZ
          have HW3 := Lib.hid hw3
          clear h2 s2 hb3 hw3
          go_wp2_with (at_builtin; refine wpList_append_own _ rfl (.tmp 33) (.tmp 36) 27 rfl b 30 i0 _ 4 40 Try.underlying27 hi0 hz0 hz1 hz2 rfl (by decide) (.slice A k cap) k _ rfl HROW.out ⟨w2.heap.size, 0, none⟩ 1 1 (frC ⟨k, 0, ⟨#[120]⟩, false⟩) rfl (by rfl) HNEW.out HONE.out (by unfold maxLen; omega) (by omega) HSZ.out ?_; intro v7 w7 h3 h4 h5; have H3 := Lib.hid h3; have H4 := Lib.hid h4; clear h3 h4 h5)
          obtain ⟨A7, c7, rfl⟩ := Gn.slice_of H3.out
          have HP7 := Lib.hid (show PS w b (fillL (k + 1)) (fillL (k + 1)) (.slice A7 (k + 1) c7) w7 from HP3.out.newRow (by rw [HW3.out]; exact H4.out) (by
            have := H3.out
            rw [fillL_len, fillL_succ, frsC_app]
            simpa [frsC] using this))
          go_roundw
          case rel => exact ⟨k + 1, A7, c7, by omega, rfl, by go_num, HP7.out⟩
          case measure => simp [intOf]; omega
        · have hk2 : k = 1022 := by omega
          subst hk2
          go_wp2_with fail
          go_meet
          case rel => exact ⟨fillL 1022, A, cap, by rw [fillL_len], by rw [fillL_len]; exact HP.out, fillL_lst 1022 (by omega)⟩
  case rest =>
  obtain ⟨fs0, A1, cap1, rfl, hps0, hls0⟩ := hcut
  obtain ⟨U0, hU0⟩ : ∃ x, x = wc := ⟨_, rfl⟩
  rw [← hU0] at hps0 ⊢
  clear hU0
  have HPS0 := Lib.hid hps0
  have HLS0 := Lib.hid hls0
  clear hps0 hls0 hfm2 hfc
  go_wp2_with fail
  go_loopw [6, 8] (fun sv i wr => ∃ (k : Nat) (fs : List Fr) (A : Option Addr) (cap : Nat), k ≤ n ∧ k ≤ 40 ∧ sv = .slice A fs.length cap ∧ i = .int .i64 k ∧ PS w b fs fs (.slice A fs.length cap) wr ∧ Lst fs) (fun _ i _ => 40 - (intOf i).toNat)
  case atStart => exact ⟨0, fs0, A1, cap1, by omega, by omega, rfl, rfl, HPS0.out, HLS0.out⟩
  case round =>
    obtain ⟨k, fs, A, cap, hkn, hk40, rfl, rfl, hps, hls⟩ := hrel
    have HP := Lib.hid hps
    have HLS := Lib.hid hls
    clear hps hls
    by_cases hk : k < n ∧ k < 40
    · obtain ⟨hk1, hk2⟩ := hk
      have hi1 : (k : Int) < (n : Int) := by omega
      have hi2 : (k : Int) < 40 := by omega
      have HKL := Lib.hid (show k < l.length by rw [← HN0.out]; exact hk1)
      obtain ⟨y, hy⟩ : ∃ x, x = (l[k]'HKL.out) := ⟨_, rfl⟩
      obtain ⟨yw, yi, ya, yv, yt⟩ := y
      have hAA := HA.out (by have := HKL.out; omega)
      subst hAA
      obtain ⟨e0, e1, e2, e3, e4⟩ := HC.out k HKL.out wr HP.out.bel
      rw [← hy] at e0 e1 e2 e3 e4
      simp only at e0 e1 e2 e3 e4
      clear hy
      obtain ⟨m, hm⟩ : ∃ x, x = fs.length := ⟨_, rfl⟩
      rw [← hm] at HP ⊢
      have HM := Lib.hid hm
      clear hm
      go_upto_region 15 with fail
      obtain ⟨xb, hxb⟩ : ∃ x, x = wr.heap.size := ⟨_, rfl⟩
      obtain ⟨w2, hw2⟩ : ∃ x, x = wr.alloc (.cells #[.int .i64 yw, .int .i64 yi, .int .i64 ya, .int .u32 (yv : Int), .string yt] 33) := ⟨_, rfl⟩
      rw [← hw2, ← hxb]
      have hb2 : Below wr.heap.size wr w2 := by rw [hw2]; exact (Below.refl _ _).alloc (Nat.le_refl _) _
      have hx2 : w2.heap[xb]? = some (.cells #[.int .i64 yw, .int .i64 yi, .int .i64 ya, .int .u32 (yv : Int), .string yt] 33 (0, 0)) := by rw [hw2, hxb]; exact heap_alloc_new _ _
      have HP2 := Lib.hid (HP.out.below hb2)
      have HX := Lib.hid hx2
      have x0 := cell_of_row _ _ 0 _ _ (0, 0) hx2
      have x1 := cell_of_row _ _ 1 _ _ (0, 0) hx2
      have x2 := cell_of_row _ _ 2 _ _ (0, 0) hx2
      have x3 := cell_of_row _ _ 3 _ _ (0, 0) hx2
      have x4 := cell_of_row _ _ 4 _ _ (0, 0) hx2
      clear e0 e1 e2 e3 e4 hw2 hxb hb2 hx2
      obtain ⟨tx, htx⟩ : ∃ t, t = yt.extract 0 (min yt.size 60) := ⟨_, rfl⟩
      have HTS := Lib.hid (show tx.size ≤ 60 by rw [htx, ByteArray.size_extract]; omega)
      have HTX := Lib.hid htx
      clear htx
      go_upto_region 16 with fail
      obtain ⟨mx, hmx⟩ : ∃ x : Int, x = if (60 : Int) < (yt.size : Int) then 60 else (yt.size : Int) := ⟨_, rfl⟩
      rw [← hmx]
      rw [show yt.extract 0 mx.toNat = tx from by rw [HTX.out, hmx]; congr 1; split <;> omega]
      clear hmx
      have HM2 := Lib.hid (show m ≤ 1024 by rw [HM.out]; exact HLS.out.few)
      go_upto_if 61 with fail
      obtain ⟨mc, hmc⟩ : ∃ x, decide (0 < m) = x := ⟨_, rfl⟩
      rw [hmc]
      obtain ⟨p, hp⟩ : ∃ p, p = plN yi m := ⟨_, rfl⟩
      obtain ⟨pa, hpa⟩ : ∃ x : Int, x = if m = 0 then 0 else (p : Int) := ⟨_, rfl⟩
      have HPN := Lib.hid hp
      have HPA := Lib.hid hpa
      clear hp hpa
      go_cut [11] from 62 to 66 (fun sa wx => sa = .int .i64 pa ∧ wx = w2)
      case first =>
        cases mc
        · have hm0 : m = 0 := by have := of_decide_eq_false hmc; omega
          have HPE := Lib.hid (show pa = 0 by rw [HPA.out, if_pos hm0])
          clear hm0 hmc
          go_wp2_with fail
          go_meet
          case rel => exact ⟨by rw [HPE.out], rfl⟩
        · have hm0 : 0 < m := by have := of_decide_eq_true hmc; omega
          have HPE := Lib.hid (show pa = p by rw [HPA.out, if_neg (by omega)])
          have HPC := Lib.hid (rplace_any yi m hm0 (by have := HM2.out; omega) w2)
          rw [← HPN.out] at HPC
          clear hm0 hmc
          go_wp2_with fail
          refine HPC.out.mono ?_
          rintro e wq ⟨rfl, rfl⟩
          go_wp2_with fail
          go_meet
          case rel => exact ⟨by rw [HPE.out], rfl⟩
      case rest =>
      obtain ⟨rfl, hww⟩ := hcut
      cases hww.symm
      have HMC := Lib.hid hmc
      clear hmc
      obtain ⟨q6, hq6⟩ : ∃ q, yw.tmod 6 = q := ⟨_, rfl⟩
      obtain ⟨r6, hr6⟩ : ∃ q, (q6 + 6).tmod 6 = q := ⟨_, rfl⟩
      have hsix := six yw
      rw [hq6, hr6] at hsix
      obtain ⟨s1, s2, s3, s4⟩ := hsix
      have HR6 := Lib.hid (show r6 = 0 ∨ r6 = 1 ∨ r6 = 2 ∨ r6 = 3 ∨ r6 = 4 ∨ r6 = 5 by omega)
      go_upto_region 23 with fail
      clear x0 s1 s2 s3 s4 hq6 hr6
      obtain h6 | h6 | h6 | h6 | h6 | h6 := HR6.out
      · subst h6
        as_aux_lemma =>
        by_cases hfew : m < 1024
        · have hlt : (m : Int) < 1024 := by omega
          have hbn := bneq_run true true
          have HFW := Lib.hid (show fs.length < 1024 by rw [← HM.out]; exact hfew)
          go_wp2_with fail
          refine (send_few HP2.out.net ya yi tx HFW.out HP2.out.size).mono ?_
          rintro e w3 ⟨rfl, h3, s3⟩
          have HP3 := Lib.hid (HP2.out.deed h3 s3)
          have hxx := HP2.out.keeps s3 (by decide) (by decide) HX.out
          have x0 := cell_of_row _ _ 0 _ _ (0, 0) hxx
          have x1 := cell_of_row _ _ 1 _ _ (0, 0) hxx
          have x2 := cell_of_row _ _ 2 _ _ (0, 0) hxx
          have x3 := cell_of_row _ _ 3 _ _ (0, 0) hxx
          have x4 := cell_of_row _ _ 4 _ _ (0, 0) hxx
          have HX3 := Lib.hid hxx
          clear hxx
          clear h3 s3
          have hbd := rf_build3 ya yi tx w3
          obtain ⟨w4, hw4⟩ : ∃ x, x = w3.alloc (.cells #[.int .i64 ya, .int .i64 yi, .string tx, .bool false] 30) := ⟨_, rfl⟩
          have hb4 : Below w3.heap.size w3 w4 := by rw [hw4]; exact (Below.refl _ _).alloc (Nat.le_refl _) _
          have HP4 := Lib.hid (HP3.out.below hb4)
          have HNEW := Lib.hid (four_newT w4 ⟨ya, yi, tx, false⟩ (q := w3.heap.size) (by rw [hw4]; exact heap_alloc_new _ _))
          have HONE := Lib.hid (frC_one ⟨ya, yi, tx, false⟩)
          have HROW := Lib.hid HP4.out.row
          rw [← HM.out] at HROW
          have HSZ := Lib.hid HP4.out.size
          rw [hw4] at HNEW HROW HSZ
          have HW4 := Lib.hid hw4
          clear hb4 hw4
          go_wp2_with (first | (at_builtin; refine wpList_append_own _ rfl (.tmp 109) (.tmp 116) 27 rfl b 30 i0 _ 4 40 Try.underlying27 hi0 hz0 hz1 hz2 rfl (by decide) (.slice A m cap) m _ rfl HROW.out ⟨w3.heap.size, 0, none⟩ 1 1 (frC ⟨ya, yi, tx, false⟩) rfl (by rfl) HNEW.out HONE.out (by unfold maxLen; omega) (by omega) HSZ.out ?_; intro v7 w7 h3 h4 h5; have H3 := Lib.hid h3; have H4 := Lib.hid h4; clear h3 h4 h5) | fail)
          obtain ⟨A7, c7, rfl⟩ := Gn.slice_of H3.out
          obtain ⟨fs7, hfs7⟩ : ∃ x, x = fs ++ [⟨ya, yi, tx, false⟩] := ⟨_, rfl⟩
          have HM7 := Lib.hid (show m + 1 = fs7.length by rw [hfs7, List.length_append, HM.out]; rfl)
          have HP7 := Lib.hid (show PS w b fs7 fs7 (.slice A7 (m + 1) c7) w7 from by
            rw [← hfs7] at HP4
            refine HP4.out.newRow (by rw [HW4.out]; exact H4.out) ?_
            rw [← HM7.out, hfs7, frsC_app]
            simpa [frsC] using H3.out)
          have HLS7 := Lib.hid (show Lst fs7 by rw [hfs7]; exact HLS.out.add HFW.out (by have := HTS.out; show tx.size ≤ 2000000; omega))
          clear hfs7
          go_wp2_with fail
          refine (show Calls Try.prog 13 #[.pointer (some ⟨b, 0, none⟩)] _ (IsN ((m + 1) : Nat) _) from by have := count_self HP7.out.net; rw [← HM7.out] at this; exact this).mono ?_
          rintro e wq ⟨rfl, rfl⟩
          go_wp2_with fail
          go_roundw
          case rel => exact ⟨k + 1, fs7, A7, c7, by omega, by omega, by rw [HM7.out], by go_num, by have := HP7.out; rw [HM7.out] at this; exact this, HLS7.out⟩
          case measure => simp [intOf]; omega
        · have hlt : ¬ (m : Int) < 1024 := by omega
          have hbn := bneq_run false false
          have HSF := Lib.hid (send_full HP2.out.net ya yi tx (by rw [← HM.out]; have := HM2.out; omega) HP2.out.size)
          go_wp2_with fail
          refine HSF.out.mono ?_
          rintro e w3 ⟨rfl, h3, s3⟩
          have HP3 := Lib.hid (HP2.out.deed h3 s3)
          clear h3 s3
          go_wp2_with fail
          refine (show Calls Try.prog 13 #[.pointer (some ⟨b, 0, none⟩)] _ (IsN (m : Nat) _) from by have := count_self HP3.out.net; rw [← HM.out] at this; exact this).mono ?_
          rintro e wq ⟨rfl, rfl⟩
          go_wp2_with fail
          go_roundw
          case rel => exact ⟨k + 1, fs, A, cap, by omega, by omega, by rw [HM.out], by go_num, by have := HP3.out; rw [HM.out] at this; exact this, HLS.out⟩
          case measure => simp [intOf]; omega
      · subst h6
        as_aux_lemma =>
        by_cases hfew : m < 1024
        · have hlt : (m : Int) < 1024 := by omega
          have hbn := bneq_run true true
          have HFW := Lib.hid (show fs.length < 1024 by rw [← HM.out]; exact hfew)
          go_wp2_with fail
          refine (send_few HP2.out.net ya yi tx HFW.out HP2.out.size).mono ?_
          rintro e w3 ⟨rfl, h3, s3⟩
          have HP3 := Lib.hid (HP2.out.deed h3 s3)
          have hxx := HP2.out.keeps s3 (by decide) (by decide) HX.out
          have x0 := cell_of_row _ _ 0 _ _ (0, 0) hxx
          have x1 := cell_of_row _ _ 1 _ _ (0, 0) hxx
          have x2 := cell_of_row _ _ 2 _ _ (0, 0) hxx
          have x3 := cell_of_row _ _ 3 _ _ (0, 0) hxx
          have x4 := cell_of_row _ _ 4 _ _ (0, 0) hxx
          have HX3 := Lib.hid hxx
          clear hxx
          clear h3 s3
          have hbd := rf_build3 ya yi tx w3
          obtain ⟨w4, hw4⟩ : ∃ x, x = w3.alloc (.cells #[.int .i64 ya, .int .i64 yi, .string tx, .bool false] 30) := ⟨_, rfl⟩
          have hb4 : Below w3.heap.size w3 w4 := by rw [hw4]; exact (Below.refl _ _).alloc (Nat.le_refl _) _
          have HP4 := Lib.hid (HP3.out.below hb4)
          have HNEW := Lib.hid (four_newT w4 ⟨ya, yi, tx, false⟩ (q := w3.heap.size) (by rw [hw4]; exact heap_alloc_new _ _))
          have HONE := Lib.hid (frC_one ⟨ya, yi, tx, false⟩)
          have HROW := Lib.hid HP4.out.row
          rw [← HM.out] at HROW
          have HSZ := Lib.hid HP4.out.size
          rw [hw4] at HNEW HROW HSZ
          have HW4 := Lib.hid hw4
          clear hb4 hw4
          go_wp2_with (first | (at_builtin; refine wpList_append_own _ rfl (.tmp 109) (.tmp 116) 27 rfl b 30 i0 _ 4 40 Try.underlying27 hi0 hz0 hz1 hz2 rfl (by decide) (.slice A m cap) m _ rfl HROW.out ⟨w3.heap.size, 0, none⟩ 1 1 (frC ⟨ya, yi, tx, false⟩) rfl (by rfl) HNEW.out HONE.out (by unfold maxLen; omega) (by omega) HSZ.out ?_; intro v7 w7 h3 h4 h5; have H3 := Lib.hid h3; have H4 := Lib.hid h4; clear h3 h4 h5) | fail)
          obtain ⟨A7, c7, rfl⟩ := Gn.slice_of H3.out
          obtain ⟨fs7, hfs7⟩ : ∃ x, x = fs ++ [⟨ya, yi, tx, false⟩] := ⟨_, rfl⟩
          have HM7 := Lib.hid (show m + 1 = fs7.length by rw [hfs7, List.length_append, HM.out]; rfl)
          have HP7 := Lib.hid (show PS w b fs7 fs7 (.slice A7 (m + 1) c7) w7 from by
            rw [← hfs7] at HP4
            refine HP4.out.newRow (by rw [HW4.out]; exact H4.out) ?_
            rw [← HM7.out, hfs7, frsC_app]
            simpa [frsC] using H3.out)
          have HLS7 := Lib.hid (show Lst fs7 by rw [hfs7]; exact HLS.out.add HFW.out (by have := HTS.out; show tx.size ≤ 2000000; omega))
          clear hfs7
          go_wp2_with fail
          refine (show Calls Try.prog 13 #[.pointer (some ⟨b, 0, none⟩)] _ (IsN ((m + 1) : Nat) _) from by have := count_self HP7.out.net; rw [← HM7.out] at this; exact this).mono ?_
          rintro e wq ⟨rfl, rfl⟩
          go_wp2_with fail
          go_roundw
          case rel => exact ⟨k + 1, fs7, A7, c7, by omega, by omega, by rw [HM7.out], by go_num, by have := HP7.out; rw [HM7.out] at this; exact this, HLS7.out⟩
          case measure => simp [intOf]; omega
        · have hlt : ¬ (m : Int) < 1024 := by omega
          have hbn := bneq_run false false
          have HSF := Lib.hid (send_full HP2.out.net ya yi tx (by rw [← HM.out]; have := HM2.out; omega) HP2.out.size)
          go_wp2_with fail
          refine HSF.out.mono ?_
          rintro e w3 ⟨rfl, h3, s3⟩
          have HP3 := Lib.hid (HP2.out.deed h3 s3)
          clear h3 s3
          go_wp2_with fail
          refine (show Calls Try.prog 13 #[.pointer (some ⟨b, 0, none⟩)] _ (IsN (m : Nat) _) from by have := count_self HP3.out.net; rw [← HM.out] at this; exact this).mono ?_
          rintro e wq ⟨rfl, rfl⟩
          go_wp2_with fail
          go_roundw
          case rel => exact ⟨k + 1, fs, A, cap, by omega, by omega, by rw [HM.out], by go_num, by have := HP3.out; rw [HM.out] at this; exact this, HLS.out⟩
          case measure => simp [intOf]; omega
      · subst h6
        as_aux_lemma =>
        have HT := Lib.hid (take_any HP2.out.net yi HLS.out.few HP2.out.size)
        unfold TakeT at HT
        by_cases hm0 : m = 0
        · have hfs0 : fs = [] := List.eq_nil_of_length_eq_zero (by rw [← HM.out]; omega)
          have HT := Lib.hid (show Calls Try.prog 8 #[.pointer (some ⟨b, 0, none⟩), .int .i64 yi] w2 (fun e w' => e = .returned (.tuple #[.agg #[.int .i64 0, .int .i64 0, .string ⟨#[]⟩, .bool false], .bool false]) ∧ NetAt b b fs w' ∧ NSep b b w2 w') from HT.out.mono fun e w' hh => by
            obtain ⟨h1, h2, h3, _⟩ := hh
            rw [hfs0] at h1 h2 ⊢
            rw [remF_nil] at h2
            exact ⟨h1, h2, h3⟩)
          clear hfs0
          have hng : ¬ 0 < m := by omega
          clear hm0
          have hbn := bneq_run false false
          have hzz := neq_zero
          have hzb := fr_zero
          have hnn := not_run false
          go_wp2_with fail
          refine HT.out.mono ?_
          rintro e w3 ⟨rfl, h3, s3⟩
          have HP3 := Lib.hid (HP2.out.deed h3 s3)
          obtain ⟨w4, hw4⟩ : ∃ x, x = w3.alloc (.cells #[.int .i64 0, .int .i64 0, .string ⟨#[]⟩, .bool false] 35) := ⟨_, rfl⟩
          obtain ⟨q4, hq4⟩ : ∃ x, x = w3.heap.size := ⟨_, rfl⟩
          have hx4 : w4.heap[q4]? = some (.cells #[.int .i64 0, .int .i64 0, .string ⟨#[]⟩, .bool false] 35 (0, 0)) := by rw [hw4, hq4]; exact heap_alloc_new _ _
          have y0 := cell_of_row _ _ 0 _ _ (0, 0) hx4
          have y1 := cell_of_row _ _ 1 _ _ (0, 0) hx4
          have y2 := cell_of_row _ _ 2 _ _ (0, 0) hx4
          have y3 := cell_of_row _ _ 3 _ _ (0, 0) hx4
          have HP4 := Lib.hid (show PS w b fs fs (.slice A m cap) w4 by rw [hw4]; exact HP3.out.below ((Below.refl _ _).alloc (Nat.le_refl _) _))
          have HW4 := Lib.hid hw4
          have HQ4 := Lib.hid hq4
          clear h3 s3 hw4 hq4 hx4
          go_upto_region 32 with fail
          rw [← HW4.out, ← HQ4.out]
          go_quiet (fail)
          obtain ⟨w5, hw5⟩ : ∃ x, x = w4.drewN nq := ⟨_, rfl⟩
          rw [← hw5]
          have HP5 := Lib.hid (show PS w b fs fs (.slice A m cap) w5 by rw [hw5]; exact HP4.out.below (Gn.below_drewN (Below.refl _ _) _))
          clear hw5 y0 y1 y2 y3
          go_wp2_with fail
          refine (show Calls Try.prog 13 #[.pointer (some ⟨b, 0, none⟩)] _ (IsN (m : Nat) _) from by have := count_self HP5.out.net; rw [← HM.out] at this; exact this).mono ?_
          rintro e wq ⟨rfl, rfl⟩
          go_wp2_with fail
          go_roundw
          case rel => exact ⟨k + 1, fs, A, cap, by omega, by omega, by rw [HM.out], by go_num, by have := HP5.out; rw [HM.out] at this; exact this, HLS.out⟩
          case measure => simp [intOf]; omega
        · have HPL := Lib.hid (show p < fs.length by rw [← HM.out, HPN.out]; exact plN_lt yi (by omega))
          have hpa : pa = (p : Int) := by rw [HPA.out, if_neg (by omega)]
          rw [hpa]
          obtain ⟨⟨f0, f1, f2, f3⟩, hf⟩ : ∃ f, f = fs[p]'HPL.out := ⟨_, rfl⟩
          have HAT := Lib.hid (show atF fs yi = ⟨f0, f1, f2, f3⟩ by rw [atF_some (p := p) (by rw [HPN.out, HM.out]) HPL.out]; exact hf.symm)
          have HPF := Lib.hid hf
          have hpm : (p : Int) < (m : Int) := by have := HPL.out; rw [← HM.out] at this; omega
          have hpm2 : p < m := by omega
          clear hf hpa
          rw [HAT.out, ← HM.out, decide_eq_true (show 0 < m by omega), ← HPN.out] at HT
          unfold AGF at HT
          simp only at HT
          have hgg : 0 < m := by omega
          have hbn := bneq_run true true
          have hnr := neq_rf f0 f1 f2 f3
          have hnn := not_run true
          go_wp2_with fail
          refine HT.out.mono ?_
          rintro e w3 ⟨rfl, h3, s3, -⟩
          have HP3 := Lib.hid (HP2.out.deed h3 s3)
          obtain ⟨w4, hw4⟩ : ∃ x, x = w3.alloc (.cells #[.int .i64 f0, .int .i64 f1, .string f2, .bool f3] 35) := ⟨_, rfl⟩
          obtain ⟨q4, hq4⟩ : ∃ x, x = w3.heap.size := ⟨_, rfl⟩
          have hx4 : w4.heap[q4]? = some (.cells #[.int .i64 f0, .int .i64 f1, .string f2, .bool f3] 35 (0, 0)) := by rw [hw4, hq4]; exact heap_alloc_new _ _
          have y0 := cell_of_row _ _ 0 _ _ (0, 0) hx4
          have y1 := cell_of_row _ _ 1 _ _ (0, 0) hx4
          have y2 := cell_of_row _ _ 2 _ _ (0, 0) hx4
          have y3 := cell_of_row _ _ 3 _ _ (0, 0) hx4
          have HP4 := Lib.hid (show PS w b fs (remF fs p) (.slice A m cap) w4 by rw [hw4]; exact HP3.out.below ((Below.refl _ _).alloc (Nat.le_refl _) _))
          obtain ⟨g2, cur2, hAs, hg2, hbg2, -, hnc2, hcm2, hcs2, hct2, hget2⟩ := HP4.out.get p HPL.out
          subst hAs
          rw [← HM.out] at hnc2 hct2
          have d0 : _ = some (Value.int .i64 f0) := (cell_of_row _ _ (p * 4) _ _ (0, 0) hg2).trans (by rw [show p * 4 = p * 4 + 0 from rfl, hget2 0 (by omega), ← HPF.out]; rfl)
          have d1 : _ = some (Value.int .i64 f1) := (cell_of_row _ _ (p * 4 + 1) _ _ (0, 0) hg2).trans (by rw [hget2 1 (by omega), ← HPF.out]; rfl)
          have d2 : _ = some (Value.string f2) := (cell_of_row _ _ (p * 4 + 2) _ _ (0, 0) hg2).trans (by rw [hget2 2 (by omega), ← HPF.out]; rfl)
          have d3 : _ = some (Value.bool f3) := (cell_of_row _ _ (p * 4 + 3) _ _ (0, 0) hg2).trans (by rw [hget2 3 (by omega), ← HPF.out]; rfl)
          have HG2 := Lib.hid hg2
          have HCT2 := Lib.hid hct2
          have HCS2 := Lib.hid hcs2
          clear hg2 hbg2 hcs2 hct2 hget2
          have HW4 := Lib.hid hw4
          have HQ4 := Lib.hid hq4
          clear h3 s3 hw4 hq4 hx4
          go_upto_region 32 with fail
          rw [← HW4.out, ← HQ4.out]
          go_quiet (fail)
          obtain ⟨w5, hw5⟩ : ∃ x, x = w4.drewN nq := ⟨_, rfl⟩
          rw [← hw5]
          have HP5 := Lib.hid (show PS w b fs (remF fs p) (.slice (some ⟨g2, 0, none⟩) m cap) w5 by rw [hw5]; exact HP4.out.below (Gn.below_drewN (Below.refl _ _) _))
          have HG5 := Lib.hid (show w5.heap[g2]? = some (.cells cur2 30 (0, 0)) by rw [hw5]; exact HG2.out)
          clear hw5 y0 y1 y2 y3 d0 d1 d2 d3
          go_upto_region 35 with fail
          have hpc : (p : Int) ≤ (cap : Int) := by omega
          have hmc2 : m ≤ cap := hnc2
          have hm1024 := HM2.out
          obtain ⟨j, hj⟩ : ∃ j, j = p + 1 := ⟨_, rfl⟩
          have hw1 : IntKind.i64.wrap ((p : Int) + 1) = (j : Int) := by rw [hj]; exact IntWalk.i64_in _ (by omega)
          have hjm : (j : Int) ≤ (m : Int) := by omega
          have hjm2 : j ≤ m := by omega
          obtain ⟨Ad, hAd, hsrc⟩ := src_drop (g := g2) (p := j) (T := 30) HCT2.out hmc2
          have HSRC := Lib.hid hsrc
          have HJ := Lib.hid hj
          unfold maxLen at hcm2
          clear hsrc hj
          refine wp_region_noPanic ?_
          refine wp_region_held_drew (S := (fun _ => True)) (by kernel_rfl) ?_ (fun hHeld => ?_)
          · exact trivial
          conv in Array.replicate _ false => change #[false, false, false, false, false, false, false, false, false, false, false]
          obtain ⟨wd, hwd⟩ : ∃ x, x = w5.drew := ⟨_, rfl⟩
          rw [← hwd]
          have HPD := Lib.hid (show PS w b fs (remF fs p) (.slice (some ⟨g2, 0, none⟩) m cap) wd by rw [hwd]; exact HP5.out.drew)
          have HGD := Lib.hid (show wd.heap[g2]? = some (.cells cur2 30 (0, 0)) by rw [hwd]; exact HG5.out)
          clear hwd
          refine wpAnyH_take (i := 1) (v := ?_) rfl (by kernel_rfl) (by kernel_rfl) (by kernel_rfl) (fun _ _ _ h => h) (Or.inl ⟨by rfl, ?_⟩) (by assumption) ?_
          rotate_left
          · intro w hSw
            try dsimp only at hSw
            go_simp
            try with_reducible rfl
          try simp only [Act.put, List.getElem_toArray, List.getElem_cons_zero, List.getElem_cons_succ, List.setIfInBounds_toArray, List.set_cons_zero, List.set_cons_succ]
          refine wpAnyH_take (i := 2) (v := ?_) rfl (by kernel_rfl) (by kernel_rfl) (by kernel_rfl) (fun _ _ _ h => h) (Or.inl ⟨by rfl, ?_⟩) (by assumption) ?_
          rotate_left
          · intro w hSw
            try dsimp only at hSw
            go_simp
            try with_reducible rfl
          try simp only [Act.put, List.getElem_toArray, List.getElem_cons_zero, List.getElem_cons_succ, List.setIfInBounds_toArray, List.set_cons_zero, List.set_cons_succ]
          refine wpAnyH_take (i := 3) (v := ?_) rfl (by kernel_rfl) (by kernel_rfl) (by kernel_rfl) (fun _ _ _ h => h) (Or.inl ⟨by rfl, ?_⟩) (by assumption) ?_
          rotate_left
          · intro w hSw
            try dsimp only at hSw
            go_simp
            try with_reducible rfl
          try simp only [Act.put, List.getElem_toArray, List.getElem_cons_zero, List.getElem_cons_succ, List.setIfInBounds_toArray, List.set_cons_zero, List.set_cons_succ]
          refine wpAnyH_take (i := 5) (v := ?_) rfl (by kernel_rfl) (by kernel_rfl) (by kernel_rfl) (fun _ _ _ h => h) (Or.inl ⟨by rfl, ?_⟩) (by assumption) ?_
          rotate_left
          · intro w hSw
            try dsimp only at hSw
            go_simp
            try with_reducible rfl
          try simp only [Act.put, List.getElem_toArray, List.getElem_cons_zero, List.getElem_cons_succ, List.setIfInBounds_toArray, List.set_cons_zero, List.set_cons_succ]
          refine wpAnyH_take (i := 6) (v := ?_) rfl (by kernel_rfl) (by kernel_rfl) (by kernel_rfl) (fun _ _ _ h => h) (Or.inl ⟨by rfl, ?_⟩) (by assumption) ?_
          rotate_left
          · intro w hSw
            try dsimp only at hSw
            go_simp
            try with_reducible rfl
          try simp only [Act.put, List.getElem_toArray, List.getElem_cons_zero, List.getElem_cons_succ, List.setIfInBounds_toArray, List.set_cons_zero, List.set_cons_succ]
          refine wpAnyH_take (i := 7) (v := ?_) rfl (by kernel_rfl) (by kernel_rfl) (by kernel_rfl) (fun _ _ _ h => h) (Or.inl ⟨by rfl, ?_⟩) (by assumption) ?_
          rotate_left
          · intro w hSw
            try dsimp only at hSw
            go_simp
            try with_reducible rfl
          try simp only [Act.put, List.getElem_toArray, List.getElem_cons_zero, List.getElem_cons_succ, List.setIfInBounds_toArray, List.set_cons_zero, List.set_cons_succ]
          refine wpAnyH_take (i := 8) (v := ?_) rfl (by kernel_rfl) (by kernel_rfl) (by kernel_rfl) (fun _ _ _ h => h) (Or.inl ⟨by rfl, ?_⟩) (by assumption) ?_
          rotate_left
          · intro w hSw
            try dsimp only at hSw
            go_simp
            try with_reducible rfl
          try simp only [Act.put, List.getElem_toArray, List.getElem_cons_zero, List.getElem_cons_succ, List.setIfInBounds_toArray, List.set_cons_zero, List.set_cons_succ]
          refine wpAnyH_ready (rs := [0]) (by kernel_rfl) (by simp) ?_
          refine AllReadyH.cons rfl (fun K hK => ?_) AllReadyH.nil
          go_simp
          have hbe := (Below.refl wd.heap.size wd).alloc (Nat.le_refl _) (.cells #[] 30)
          have HE0 := Lib.hid (own_empty4 (base := wd.heap.size) (heap_alloc_new wd (.cells #[] 30)) (Nat.le_refl _))
          have HBE := Lib.hid hbe
          clear hbe
          refine hK.out _ _ (trivial) (fun hHeld => ?_)
          clear hK K
          try simp only [Act.put, List.getElem_toArray, List.getElem_cons_zero, List.getElem_cons_succ, List.setIfInBounds_toArray, List.set_cons_zero, List.set_cons_succ]
          refine wpAnyH_ready (rs := [4]) (by kernel_rfl) (by simp) ?_
          refine AllReadyH.cons rfl (fun K hK => ?_) AllReadyH.nil
          refine step_append_m _ (by rfl) (.tmp 152) (.tmp 155) 27 30 4 (by decide) (by rfl) i0 (.agg #[.int .i64 0, .int .i64 0, .string ⟨#[]⟩, .bool false]) 40 Try.underlying27 hi0 hz0 hz1 hz2 (by rfl) wd.heap.size (.slice (some ⟨wd.heap.size, 0, none⟩) 0 0) 0 _ (by simp [Act.eval]) HE0.out ⟨g2, 0, none⟩ p cap (by simp [Act.eval]) (frsC (fs.take p)) (by rw [frsC_len, List.length_take, ← HM.out]; omega) (src_take ((HBE.out.block _ (Gn.heap_lt HGD.out)).trans HGD.out) HCT2.out (by omega)) (frsC_one _) (by unfold maxLen; omega) (by omega) HBE.out.size ?_
          intro v7 w7 h7 g7
          rw [Nat.zero_add, List.nil_append] at h7
          obtain ⟨A7, c7, rfl⟩ := Gn.slice_of h7
          have HB7 := Lib.hid (HBE.out.grown g7 HBE.out.size (Gn.own_block HE0.out))
          have H7 := Lib.hid h7
          clear h7 g7
          refine hK.out _ _ (trivial) (fun hHeld => ?_)
          clear hK K
          try simp only [Act.put, List.getElem_toArray, List.getElem_cons_zero, List.getElem_cons_succ, List.setIfInBounds_toArray, List.set_cons_zero, List.set_cons_succ]
          refine wpAnyH_ready (rs := [9]) (by kernel_rfl) (by simp) ?_
          refine AllReadyH.cons rfl (fun K hK => ?_) AllReadyH.nil
          refine step_append_m _ (by rfl) (.tmp 156) (.tmp 160) 27 30 4 (by decide) (by rfl) i0 (.agg #[.int .i64 0, .int .i64 0, .string ⟨#[]⟩, .bool false]) 40 Try.underlying27 hi0 hz0 hz1 hz2 (by rfl) wd.heap.size (.slice A7 p c7) p _ (by simp [Act.eval]) H7.out Ad (m - j) (cap - j) (by simp [Act.eval, hAd]) (frsC (fs.drop j)) (by rw [frsC_len, List.length_drop, ← HM.out]) (HSRC.out _ ((HB7.out.block _ (Gn.heap_lt HGD.out)).trans HGD.out)) (frsC_one _) (by unfold maxLen; omega) (by omega) HB7.out.size ?_
          intro v8 w8 h8 g8
          obtain ⟨A8, c8, rfl⟩ := Gn.slice_of h8
          have HB8 := Lib.hid (HB7.out.grown g8 HB7.out.size (Gn.own_block H7.out))
          have H8 := Lib.hid h8
          clear h8 g8
          refine hK.out _ _ (trivial) (fun hHeld => ?_)
          clear hK K
          try simp only [Act.put, List.getElem_toArray, List.getElem_cons_zero, List.getElem_cons_succ, List.setIfInBounds_toArray, List.set_cons_zero, List.set_cons_succ]
          refine wpAnyH_ready (rs := [10]) (by kernel_rfl) (by simp) ?_
          refine AllReadyH.cons rfl (fun K hK => ?_) AllReadyH.nil
          go_simp
          refine hK.out _ _ (trivial) (fun hHeld => ?_)
          clear hK K
          try simp only [Act.put, List.getElem_toArray, List.getElem_cons_zero, List.getElem_cons_succ, List.setIfInBounds_toArray, List.set_cons_zero, List.set_cons_succ]
          refine wpAnyH_done (by kernel_rfl) ?_ _
          refine NoPanic.normal ?_
          obtain ⟨fs9, hfs9⟩ : ∃ x, x = remF fs p := ⟨_, rfl⟩
          obtain ⟨m9, hm9⟩ : ∃ x, x = p + (m - j) := ⟨_, rfl⟩
          have HM9 := Lib.hid (show m9 = fs9.length by rw [hfs9, remF_len HPL.out, ← HM.out, hm9, HJ.out]; omega)
          have HP9 := Lib.hid (show PS w b fs9 fs9 (.slice A8 m9 c8) w8 from by
          rw [← hfs9] at HPD
          refine HPD.out.swap HB8.out ?_
          rw [← HM9.out, hfs9]
          have := H8.out
          rw [← hm9, ← frsC_app, HJ.out] at this
          exact this)
          have HLS9 := Lib.hid (show Lst fs9 by rw [hfs9]; exact HLS.out.rem p)
          rw [← hm9]
          clear hm9 hfs9
          go_wp2_with fail
          refine (show Calls Try.prog 13 #[.pointer (some ⟨b, 0, none⟩)] _ (IsN (m9 : Nat) _) from by have := count_self HP9.out.net; rw [← HM9.out] at this; exact this).mono ?_
          rintro e wq ⟨rfl, rfl⟩
          go_wp2_with fail
          go_roundw
          case rel => exact ⟨k + 1, fs9, A8, c8, by omega, by omega, by rw [HM9.out], by go_num, by have := HP9.out; rw [HM9.out] at this; exact this, HLS9.out⟩
          case measure => simp [intOf]; omega
      · subst h6
        as_aux_lemma =>
        have HD := Lib.hid (double_any HP2.out.net yi HLS.out.few HP2.out.size)
        unfold DblT at HD
        by_cases hin : 0 < m ∧ m < 1024
        · obtain ⟨hgg, hlt⟩ := hin
          have hlti : (m : Int) < 1024 := by omega
          have hm0 : ¬ m = 0 := by omega
          have HPL := Lib.hid (show p < fs.length by rw [← HM.out, HPN.out]; exact plN_lt yi (by omega))
          have hpa : pa = (p : Int) := by rw [HPA.out, if_neg (by omega)]
          rw [hpa]
          obtain ⟨⟨f0, f1, f2, f3⟩, hf⟩ : ∃ f, f = fs[p]'HPL.out := ⟨_, rfl⟩
          have HAT := Lib.hid (show atF fs yi = ⟨f0, f1, f2, f3⟩ by rw [atF_some (p := p) (by rw [HPN.out, HM.out]) HPL.out]; exact hf.symm)
          have HPF := Lib.hid hf
          have hpm : (p : Int) < (m : Int) := by have := HPL.out; rw [← HM.out] at this; omega
          have hpm2 : p < m := by omega
          clear hf hpa
          have hbn := bneq_run true true
          rw [HAT.out, if_pos (by rw [← HM.out]; exact ⟨hgg, hlt⟩), decide_eq_true (by rw [← HM.out]; exact ⟨hgg, hlt⟩)] at HD
          go_wp2_with fail
          refine HD.out.mono ?_
          rintro e w3 ⟨rfl, h3, s3⟩
          have HP3 := Lib.hid (HP2.out.deed h3 s3)
          obtain ⟨g2, cur2, hAs, hg2, hbg2, -, hnc2, hcm2, hcs2, hct2, hget2⟩ := HP3.out.get p HPL.out
          subst hAs
          rw [← HM.out] at hnc2 hct2
          have d0 : _ = some (Value.int .i64 f0) := (cell_of_row _ _ (p * 4) _ _ (0, 0) hg2).trans (by rw [show p * 4 = p * 4 + 0 from rfl, hget2 0 (by omega), ← HPF.out]; rfl)
          have d1 : _ = some (Value.int .i64 f1) := (cell_of_row _ _ (p * 4 + 1) _ _ (0, 0) hg2).trans (by rw [hget2 1 (by omega), ← HPF.out]; rfl)
          have d2 : _ = some (Value.string f2) := (cell_of_row _ _ (p * 4 + 2) _ _ (0, 0) hg2).trans (by rw [hget2 2 (by omega), ← HPF.out]; rfl)
          have d3 : _ = some (Value.bool f3) := (cell_of_row _ _ (p * 4 + 3) _ _ (0, 0) hg2).trans (by rw [hget2 3 (by omega), ← HPF.out]; rfl)
          have HG2 := Lib.hid hg2
          have HCT2 := Lib.hid hct2
          have HCS2 := Lib.hid hcs2
          clear hg2 hbg2 hcs2 hct2 hget2
          obtain ⟨w4, hw4⟩ : ∃ x, x = w3.alloc (.cells #[.int .i64 f0, .int .i64 f1, .string f2, .bool f3] 30) := ⟨_, rfl⟩
          have hb4 : Below w3.heap.size w3 w4 := by rw [hw4]; exact (Below.refl _ _).alloc (Nat.le_refl _) _
          have HP4 := Lib.hid (HP3.out.below hb4)
          have HNEW := Lib.hid (four_newT w4 ⟨f0, f1, f2, f3⟩ (q := w3.heap.size) (by rw [hw4]; exact heap_alloc_new _ _))
          have HONE := Lib.hid (frC_one ⟨f0, f1, f2, f3⟩)
          have HROW := Lib.hid HP4.out.row
          rw [← HM.out] at HROW
          have HSZ := Lib.hid HP4.out.size
          rw [hw4] at HNEW HROW HSZ
          have HW4 := Lib.hid hw4
          clear h3 s3 hb4 hw4
          go_wp2_with (first | (at_builtin; refine wpList_append_own _ rfl (.tmp 178) (.tmp 183) 27 rfl b 30 i0 _ 4 40 Try.underlying27 hi0 hz0 hz1 hz2 rfl (by decide) (.slice (some ⟨g2, 0, none⟩) m cap) m _ rfl HROW.out ⟨w3.heap.size, 0, none⟩ 1 1 (frC ⟨f0, f1, f2, f3⟩) rfl (by rfl) HNEW.out HONE.out (by unfold maxLen; omega) (by omega) HSZ.out ?_; intro v7 w7 h3 h4 h5; have H3 := Lib.hid h3; have H4 := Lib.hid h4; clear h3 h4 h5) | fail)
          obtain ⟨A7, c7, rfl⟩ := Gn.slice_of H3.out
          obtain ⟨fs7, hfs7⟩ : ∃ x, x = fs ++ [⟨f0, f1, f2, f3⟩] := ⟨_, rfl⟩
          have HM7 := Lib.hid (show m + 1 = fs7.length by rw [hfs7, List.length_append, HM.out]; rfl)
          have HP7 := Lib.hid (show PS w b fs7 fs7 (.slice A7 (m + 1) c7) w7 from by
            rw [← hfs7] at HP4
            refine HP4.out.newRow (by rw [HW4.out]; exact H4.out) ?_
            rw [← HM7.out, hfs7, frsC_app]
            simpa [frsC] using H3.out)
          have HLS7 := Lib.hid (show Lst fs7 by rw [hfs7]; exact HLS.out.add (by rw [← HM.out]; exact hlt) (by rw [HPF.out]; exact HLS.out.siz _ (List.getElem_mem _)))
          clear hfs7 d0 d1 d2 d3
          go_wp2_with fail
          refine (show Calls Try.prog 13 #[.pointer (some ⟨b, 0, none⟩)] _ (IsN ((m + 1) : Nat) _) from by have := count_self HP7.out.net; rw [← HM7.out] at this; exact this).mono ?_
          rintro e wq ⟨rfl, rfl⟩
          go_wp2_with fail
          go_roundw
          case rel => exact ⟨k + 1, fs7, A7, c7, by omega, by omega, by rw [HM7.out], by go_num, by have := HP7.out; rw [HM7.out] at this; exact this, HLS7.out⟩
          case measure => simp [intOf]; omega
        · have hbn := bneq_run false false
          rw [if_neg (by rw [← HM.out]; exact hin), decide_eq_false (by rw [← HM.out]; exact hin)] at HD
          by_cases hgg : 0 < m
          · have hlt : ¬ m < 1024 := by omega
            have hlti : ¬ (m : Int) < 1024 := by omega
            clear hin
            go_wp2_with fail
            refine HD.out.mono ?_
            rintro e w3 ⟨rfl, h3, s3⟩
            have HP3 := Lib.hid (HP2.out.deed h3 s3)
            clear h3 s3
            go_wp2_with fail
            refine (show Calls Try.prog 13 #[.pointer (some ⟨b, 0, none⟩)] _ (IsN (m : Nat) _) from by have := count_self HP3.out.net; rw [← HM.out] at this; exact this).mono ?_
            rintro e wq ⟨rfl, rfl⟩
            go_wp2_with fail
            go_roundw
            case rel => exact ⟨k + 1, fs, A, cap, by omega, by omega, by rw [HM.out], by go_num, by have := HP3.out; rw [HM.out] at this; exact this, HLS.out⟩
            case measure => simp [intOf]; omega
          · clear hin
            go_wp2_with fail
            refine HD.out.mono ?_
            rintro e w3 ⟨rfl, h3, s3⟩
            have HP3 := Lib.hid (HP2.out.deed h3 s3)
            clear h3 s3
            go_wp2_with fail
            refine (show Calls Try.prog 13 #[.pointer (some ⟨b, 0, none⟩)] _ (IsN (m : Nat) _) from by have := count_self HP3.out.net; rw [← HM.out] at this; exact this).mono ?_
            rintro e wq ⟨rfl, rfl⟩
            go_wp2_with fail
            go_roundw
            case rel => exact ⟨k + 1, fs, A, cap, by omega, by omega, by rw [HM.out], by go_num, by have := HP3.out; rw [HM.out] at this; exact this, HLS.out⟩
            case measure => simp [intOf]; omega
      · subst h6
        as_aux_lemma =>
        by_cases hm0 : m = 0
        · have hfs0 : fs = [] := List.eq_nil_of_length_eq_zero (by rw [← HM.out]; omega)
          have HS := Lib.hid (show Calls Try.prog 11 #[.pointer (some ⟨b, 0, none⟩), .int .i64 yi, .int .i64 ya, .int .u32 yv] w2 (fun e w' => e = .returned (.bool false) ∧ NetAt b b fs w' ∧ NSep b b w2 w') from (spoil_any HP2.out.net yi ya yv HLS.out.few HP2.out.size HLS.out.siz).mono fun e w' hh => by
            unfold SplT at hh
            rw [hfs0] at hh ⊢
            exact hh)
          clear hfs0
          have hng : ¬ 0 < m := by omega
          clear hm0
          have hbn := bneq_run false false
          go_wp2_with fail
          refine HS.out.mono ?_
          rintro e w3 ⟨rfl, h3, s3⟩
          have HP3 := Lib.hid (HP2.out.deed h3 s3)
          clear h3 s3
          go_wp2_with fail
          refine (show Calls Try.prog 13 #[.pointer (some ⟨b, 0, none⟩)] _ (IsN (m : Nat) _) from by have := count_self HP3.out.net; rw [← HM.out] at this; exact this).mono ?_
          rintro e wq ⟨rfl, rfl⟩
          go_wp2_with fail
          go_roundw
          case rel => exact ⟨k + 1, fs, A, cap, by omega, by omega, by rw [HM.out], by go_num, by have := HP3.out; rw [HM.out] at this; exact this, HLS.out⟩
          case measure => simp [intOf]; omega
        · have HPL := Lib.hid (show p < fs.length by rw [← HM.out, HPN.out]; exact plN_lt yi (by omega))
          have hpa : pa = (p : Int) := by rw [HPA.out, if_neg (by omega)]
          rw [hpa]
          obtain ⟨⟨f0, f1, f2, f3⟩, hf⟩ : ∃ f, f = fs[p]'HPL.out := ⟨_, rfl⟩
          have HAT := Lib.hid (show atF fs yi = ⟨f0, f1, f2, f3⟩ by rw [atF_some (p := p) (by rw [HPN.out, HM.out]) HPL.out]; exact hf.symm)
          have HPF := Lib.hid hf
          have hpm : (p : Int) < (m : Int) := by have := HPL.out; rw [← HM.out] at this; omega
          have hpm2 : p < m := by omega
          clear hf hpa
          have hgg : 0 < m := by omega
          obtain ⟨⟨⟨s0, s1, s2, s3⟩, sb⟩, hsp⟩ : ∃ x, x = spF ⟨f0, f1, f2, f3⟩ ya yv := ⟨_, rfl⟩
          have HSB := Lib.hid (show spB fs yi ya yv = sb ∧ spL fs yi ya yv = fs.set p ⟨s0, s1, s2, s3⟩ from by
            unfold spB spL
            rw [HAT.out, ← hsp, ← HM.out, decide_eq_true (show 0 < m by omega), ← HPN.out]
            exact ⟨rfl, rfl⟩)
          have HTU := Lib.hid (fun W : World => rturned_any ⟨f0, f1, f2, f3⟩ ya yv W (by rw [HPF.out]; exact HLS.out.siz _ (List.getElem_mem _)))
          rw [← hsp] at HTU
          unfold AGF at HTU
          simp only at HTU
          have hbn := bneq_run sb sb
          have hbb : (sb != sb) = false := by cases sb <;> rfl
          clear hsp
          obtain ⟨g2, cur2, hAs, hg2, hbg2, -, hnc2, hcm2, hcs2, hct2, hget2⟩ := HP2.out.get p HPL.out
          subst hAs
          rw [← HM.out] at hnc2 hct2
          have d0 : _ = some (Value.int .i64 f0) := (cell_of_row _ _ (p * 4) _ _ (0, 0) hg2).trans (by rw [show p * 4 = p * 4 + 0 from rfl, hget2 0 (by omega), ← HPF.out]; rfl)
          have d1 : _ = some (Value.int .i64 f1) := (cell_of_row _ _ (p * 4 + 1) _ _ (0, 0) hg2).trans (by rw [hget2 1 (by omega), ← HPF.out]; rfl)
          have d2 : _ = some (Value.string f2) := (cell_of_row _ _ (p * 4 + 2) _ _ (0, 0) hg2).trans (by rw [hget2 2 (by omega), ← HPF.out]; rfl)
          have d3 : _ = some (Value.bool f3) := (cell_of_row _ _ (p * 4 + 3) _ _ (0, 0) hg2).trans (by rw [hget2 3 (by omega), ← HPF.out]; rfl)
          have HG2 := Lib.hid hg2
          have HCT2 := Lib.hid hct2
          have HCS2 := Lib.hid hcs2
          clear hg2 hbg2 hcs2 hct2 hget2
          obtain ⟨w4, hw4⟩ : ∃ x, x = w2.alloc (.cells #[] 30) := ⟨_, rfl⟩
          have hb4 : Below w2.heap.size w2 w4 := by rw [hw4]; exact (Below.refl _ _).alloc (Nat.le_refl _) _
          have HROW := Lib.hid (show w4.ownsRow w2.heap.size 30 4 (.slice (some ⟨w2.heap.size, 0, none⟩) 0 0) 0 [] from own_empty4 (by rw [hw4]; exact heap_alloc_new _ _) (Nat.le_refl _))
          have HNEW := Lib.hid (src_take (w := w4) (p := m) ((hb4.block _ (Gn.heap_lt HG2.out)).trans HG2.out) HCT2.out (Nat.le_refl _))
          rw [show fs.take m = fs by rw [HM.out, List.take_length]] at HNEW
          have HONE := Lib.hid (frsC_one fs)
          have HSZ := Lib.hid hb4.size
          rw [hw4] at HNEW HROW HSZ
          have HW4 := Lib.hid hw4
          have HB4 := Lib.hid hb4
          have hm1024 := HM2.out
          unfold maxLen at hcm2
          clear hb4 hw4 d0 d1 d2 d3
          go_upto_region 45 with fail
          go_wp2_with (first | (at_builtin; refine wpList_append_own _ rfl (.tmp 190) (.tmp 191) 27 rfl w2.heap.size 30 i0 _ 4 40 Try.underlying27 hi0 hz0 hz1 hz2 rfl (by decide) (.slice (some ⟨w2.heap.size, 0, none⟩) 0 0) 0 [] rfl HROW.out ⟨g2, 0, none⟩ m cap (frsC fs) rfl (by rw [frsC_len, HM.out]) HNEW.out HONE.out (by unfold maxLen; omega) (by omega) HSZ.out ?_; intro v7 w7 h3 h4 h5; have H3 := Lib.hid h3; have H4 := Lib.hid h4; clear h3 h4 h5) | fail)
          obtain ⟨A7, c7, rfl⟩ := Gn.slice_of H3.out
          have HB7 := Lib.hid (HB4.out.grown (show w4.grownBy w7 _ by rw [HW4.out]; exact H4.out) HB4.out.size (Gn.own_block (show w4.ownsRow w2.heap.size 30 4 (.slice (some ⟨w2.heap.size, 0, none⟩) 0 0) 0 [] from by rw [HW4.out]; exact HROW.out)))
          have HP7 := Lib.hid (show PS w b fs fs (.slice A7 m c7) w7 from HP2.out.swap HB7.out (by
            have := H3.out
            rw [Nat.zero_add, List.nil_append, HM.out] at this
            rw [HM.out]
            exact this))
          rw [Nat.zero_add]
          have hx7 := (HB7.out.block _ (Gn.heap_lt HX.out)).trans HX.out
          have HX7 := Lib.hid hx7
          clear HG2 HCT2 HCS2 hnc2 hcm2 x1 x2 x3 x4 hx7
          obtain ⟨g3, cur3, hAs, hg3, hbg3, -, hnc2, hcm2, hcs2, hct2, hget2⟩ := HP7.out.get p HPL.out
          subst hAs
          rw [← HM.out] at hnc2 hct2
          have d0 : _ = some (Value.int .i64 f0) := (cell_of_row _ _ (p * 4) _ _ (0, 0) hg3).trans (by rw [show p * 4 = p * 4 + 0 from rfl, hget2 0 (by omega), ← HPF.out]; rfl)
          have d1 : _ = some (Value.int .i64 f1) := (cell_of_row _ _ (p * 4 + 1) _ _ (0, 0) hg3).trans (by rw [hget2 1 (by omega), ← HPF.out]; rfl)
          have d2 : _ = some (Value.string f2) := (cell_of_row _ _ (p * 4 + 2) _ _ (0, 0) hg3).trans (by rw [hget2 2 (by omega), ← HPF.out]; rfl)
          have d3 : _ = some (Value.bool f3) := (cell_of_row _ _ (p * 4 + 3) _ _ (0, 0) hg3).trans (by rw [hget2 3 (by omega), ← HPF.out]; rfl)
          have HG2 := Lib.hid hg3
          have HCT2 := Lib.hid hct2
          have HCS2 := Lib.hid hcs2
          clear hg3 hbg3 hcs2 hct2 hget2
          have HFF := Lib.hid (fun (w' : World) (h : w'.heap[xb]? = some (.cells #[.int .i64 yw, .int .i64 yi, .int .i64 ya, .int .u32 (yv : Int), .string yt] 33 (0, 0))) => show (fun w' : World => w'.cell? ⟨xb, 2, none⟩ = some (.int .i64 ya) ∧ w'.cell? ⟨xb, 3, none⟩ = some (.int .u32 (yv : Int))) w' from ⟨cell_of_row _ _ 2 _ _ (0, 0) h, cell_of_row _ _ 3 _ _ (0, 0) h⟩)
          have HGG := Lib.hid (fun (w' : World) (h : w'.heap[g3]? = some (.cells cur3 30 (0, 0))) => show (fun w' : World => w'.cell? ⟨g3, p * 4, none⟩ = some (.int .i64 f0) ∧ w'.cell? ⟨g3, p * 4 + 1, none⟩ = some (.int .i64 f1) ∧ w'.cell? ⟨g3, p * 4 + 2, none⟩ = some (.string f2) ∧ w'.cell? ⟨g3, p * 4 + 3, none⟩ = some (.bool f3)) w' from by
            have k : ∀ j, w'.cell? ⟨g3, j, none⟩ = w7.cell? ⟨g3, j, none⟩ := fun j => by rw [cell_of_row _ _ j _ _ (0, 0) h, cell_of_row _ _ j _ _ (0, 0) HG2.out]
            exact ⟨(k _).trans d0, (k _).trans d1, (k _).trans d2, (k _).trans d3⟩)
          have HD0 := Lib.hid d0
          have HSZ3 := Lib.hid (show p * 4 + 3 < cur3.size from by
            have h8 := cell_of_row _ _ (p * 4 + 3) _ _ (0, 0) HG2.out
            rw [d3] at h8
            exact (Array.getElem?_eq_some_iff.1 h8.symm).1)
          have hbx : ¬ g3 = xb := fun e => by
            have h9 := HG2.out
            rw [e, HX7.out] at h9
            injection h9 with h9
            injection h9 with _ h9
            exact absurd h9 (by decide)
          clear d0 d1 d2 d3
          obtain ⟨wd, hwd⟩ : ∃ x, x = w7.drew := ⟨_, rfl⟩
          have HPD := Lib.hid (show PS w b fs fs (.slice (some ⟨g3, 0, none⟩) m c7) wd by rw [hwd]; exact HP7.out.drew)
          have HGD := Lib.hid (show wd.heap[g3]? = some (.cells cur3 30 (0, 0)) by rw [hwd]; exact HG2.out)
          have HXD := Lib.hid (show wd.heap[xb]? = some (.cells #[.int .i64 yw, .int .i64 yi, .int .i64 ya, .int .u32 (yv : Int), .string yt] 33 (0, 0)) by rw [hwd]; exact HX7.out)
          have HWD := Lib.hid hwd
          clear hwd
          refine wp_region_noPanic ?_
          refine HeldU.wp_region_until (F := (fun w' : World => w'.cell? ⟨xb, 2, none⟩ = some (.int .i64 ya) ∧ w'.cell? ⟨xb, 3, none⟩ = some (.int .u32 (yv : Int)))) (G := (fun w' : World => w'.cell? ⟨g3, p * 4, none⟩ = some (.int .i64 f0) ∧ w'.cell? ⟨g3, p * 4 + 1, none⟩ = some (.int .i64 f1) ∧ w'.cell? ⟨g3, p * 4 + 2, none⟩ = some (.string f2) ∧ w'.cell? ⟨g3, p * 4 + 3, none⟩ = some (.bool f3))) (k := 15) (by kernel_rfl) (HFF.out _ HX7.out) ?_ (fun hHeld => ?_)
          · exact HGG.out _ HG2.out
          conv in Array.replicate _ false => change #[false, false, false, false, false, false, false, false, false, false, false, false, false, false, false, false, false]
          rw [← HWD.out] at hHeld ⊢
          refine HeldU.wpAnyU_take (i := 0) (v := ?_) rfl (by kernel_rfl) (by kernel_rfl) (by kernel_rfl) (by kernel_rfl) (by rfl) (fun _ _ _ h => h) (Or.inl ⟨by rfl, ?_⟩) (by assumption) ?_
          rotate_left
          · intro w hSw
            try dsimp only at hSw
            go_simp
            try with_reducible rfl
          try simp only [Act.put, List.getElem_toArray, List.getElem_cons_zero, List.getElem_cons_succ, List.setIfInBounds_toArray, List.set_cons_zero, List.set_cons_succ]
          refine HeldU.wpAnyU_take (i := 1) (v := ?_) rfl (by kernel_rfl) (by kernel_rfl) (by kernel_rfl) (by kernel_rfl) (by rfl) (fun _ _ _ h => h) (Or.inl ⟨by rfl, ?_⟩) (by assumption) ?_
          rotate_left
          · intro w hSw
            try dsimp only at hSw
            go_simp
            try with_reducible rfl
          try simp only [Act.put, List.getElem_toArray, List.getElem_cons_zero, List.getElem_cons_succ, List.setIfInBounds_toArray, List.set_cons_zero, List.set_cons_succ]
          refine HeldU.wpAnyU_take (i := 2) (v := ?_) rfl (by kernel_rfl) (by kernel_rfl) (by kernel_rfl) (by kernel_rfl) (by rfl) (fun _ _ _ h => h) (Or.inl ⟨by rfl, ?_⟩) (by assumption) ?_
          rotate_left
          · intro w hSw
            try dsimp only at hSw
            go_simp
            try with_reducible rfl
          try simp only [Act.put, List.getElem_toArray, List.getElem_cons_zero, List.getElem_cons_succ, List.setIfInBounds_toArray, List.set_cons_zero, List.set_cons_succ]
          refine HeldU.wpAnyU_take (i := 3) (v := ?_) rfl (by kernel_rfl) (by kernel_rfl) (by kernel_rfl) (by kernel_rfl) (by rfl) (fun _ _ _ h => h) (Or.inl ⟨by rfl, ?_⟩) (by assumption) ?_
          rotate_left
          · intro w hSw
            try dsimp only at hSw
            go_simp
            try with_reducible rfl
          try simp only [Act.put, List.getElem_toArray, List.getElem_cons_zero, List.getElem_cons_succ, List.setIfInBounds_toArray, List.set_cons_zero, List.set_cons_succ]
          refine HeldU.wpAnyU_take (i := 4) (v := ?_) rfl (by kernel_rfl) (by kernel_rfl) (by kernel_rfl) (by kernel_rfl) (by rfl) (fun _ _ _ h => h) (Or.inl ⟨by rfl, ?_⟩) (by assumption) ?_
          rotate_left
          · intro w hSw
            try dsimp only at hSw
            go_simp
            try with_reducible rfl
          try simp only [Act.put, List.getElem_toArray, List.getElem_cons_zero, List.getElem_cons_succ, List.setIfInBounds_toArray, List.set_cons_zero, List.set_cons_succ]
          refine HeldU.wpAnyU_early (i := 5) (v := ?_) rfl (by kernel_rfl) (by kernel_rfl) (by kernel_rfl) (by kernel_rfl) (by rfl) (by kernel_rfl) (fun _ _ _ h => h) (Or.inl ⟨by rfl, ?_⟩) (by assumption) ?_
          rotate_left
          · intro w hSw
            have hG := hSw.2
            clear hSw
            try dsimp only at hG
            go_simp
            try with_reducible rfl
          try simp only [Act.put, List.getElem_toArray, List.getElem_cons_zero, List.getElem_cons_succ, List.setIfInBounds_toArray, List.set_cons_zero, List.set_cons_succ]
          refine HeldU.wpAnyU_take (i := 6) (v := ?_) rfl (by kernel_rfl) (by kernel_rfl) (by kernel_rfl) (by kernel_rfl) (by rfl) (fun _ _ _ h => h) (Or.inl ⟨by rfl, ?_⟩) (by assumption) ?_
          rotate_left
          · intro w hSw
            try dsimp only at hSw
            go_simp
            try with_reducible rfl
          try simp only [Act.put, List.getElem_toArray, List.getElem_cons_zero, List.getElem_cons_succ, List.setIfInBounds_toArray, List.set_cons_zero, List.set_cons_succ]
          refine HeldU.wpAnyU_take (i := 7) (v := ?_) rfl (by kernel_rfl) (by kernel_rfl) (by kernel_rfl) (by kernel_rfl) (by rfl) (fun _ _ _ h => h) (Or.inl ⟨by rfl, ?_⟩) (by assumption) ?_
          rotate_left
          · intro w hSw
            try dsimp only at hSw
            go_simp
            try with_reducible rfl
          try simp only [Act.put, List.getElem_toArray, List.getElem_cons_zero, List.getElem_cons_succ, List.setIfInBounds_toArray, List.set_cons_zero, List.set_cons_succ]
          refine HeldU.wpAnyU_take (i := 8) (v := ?_) rfl (by kernel_rfl) (by kernel_rfl) (by kernel_rfl) (by kernel_rfl) (by rfl) (fun _ _ _ h => h) (Or.inl ⟨by rfl, ?_⟩) (by assumption) ?_
          rotate_left
          · intro w hSw
            try dsimp only at hSw
            go_simp
            try with_reducible rfl
          try simp only [Act.put, List.getElem_toArray, List.getElem_cons_zero, List.getElem_cons_succ, List.setIfInBounds_toArray, List.set_cons_zero, List.set_cons_succ]
          refine HeldU.wpAnyU_take (i := 9) (v := ?_) rfl (by kernel_rfl) (by kernel_rfl) (by kernel_rfl) (by kernel_rfl) (by rfl) (fun _ _ _ h => h) (Or.inl ⟨by rfl, ?_⟩) (by assumption) ?_
          rotate_left
          · intro w hSw
            try dsimp only at hSw
            go_simp
            try with_reducible rfl
          try simp only [Act.put, List.getElem_toArray, List.getElem_cons_zero, List.getElem_cons_succ, List.setIfInBounds_toArray, List.set_cons_zero, List.set_cons_succ]
          refine HeldU.wpAnyU_ready (rs := [10]) (by kernel_rfl) (by simp) ?_
          refine HeldU.AllReadyU.cons rfl (fun K hK => ?_) HeldU.AllReadyU.nil
          go_simp
          go_at_call 10
          refine (HTU.out wd).mono ?_
          rintro e w8 ⟨rfl, b8⟩
          have HP8 := Lib.hid (HPD.out.below b8)
          have HG8 := Lib.hid ((b8.block _ (Gn.heap_lt HGD.out)).trans HGD.out)
          have HX8 := Lib.hid ((b8.block _ (Gn.heap_lt HXD.out)).trans HXD.out)
          clear b8
          refine hK.out _ _ ⟨HFF.out _ HX8.out, fun _ => HGG.out _ HG8.out⟩ (fun hHeld => ?_)
          clear hK K
          try simp only [Act.put, List.getElem_toArray, List.getElem_cons_zero, List.getElem_cons_succ, List.setIfInBounds_toArray, List.set_cons_zero, List.set_cons_succ]
          refine HeldU.wpAnyU_take (i := 11) (v := ?_) rfl (by kernel_rfl) (by kernel_rfl) (by kernel_rfl) (by kernel_rfl) (by rfl) (fun _ _ _ h => h) (Or.inl ⟨by rfl, ?_⟩) (by assumption) ?_
          rotate_left
          · intro w hSw
            try dsimp only at hSw
            go_simp
            try with_reducible rfl
          try simp only [Act.put, List.getElem_toArray, List.getElem_cons_zero, List.getElem_cons_succ, List.setIfInBounds_toArray, List.set_cons_zero, List.set_cons_succ]
          refine HeldU.wpAnyU_take (i := 12) (v := ?_) rfl (by kernel_rfl) (by kernel_rfl) (by kernel_rfl) (by kernel_rfl) (by rfl) (fun _ _ _ h => h) (Or.inl ⟨by rfl, ?_⟩) (by assumption) ?_
          rotate_left
          · intro w hSw
            try dsimp only at hSw
            go_simp
            try with_reducible rfl
          try simp only [Act.put, List.getElem_toArray, List.getElem_cons_zero, List.getElem_cons_succ, List.setIfInBounds_toArray, List.set_cons_zero, List.set_cons_succ]
          refine HeldU.wpAnyU_take (i := 13) (v := ?_) rfl (by kernel_rfl) (by kernel_rfl) (by kernel_rfl) (by kernel_rfl) (by rfl) (fun _ _ _ h => h) (Or.inl ⟨by rfl, ?_⟩) (by assumption) ?_
          rotate_left
          · intro w hSw
            try dsimp only at hSw
            go_simp
            try with_reducible rfl
          try simp only [Act.put, List.getElem_toArray, List.getElem_cons_zero, List.getElem_cons_succ, List.setIfInBounds_toArray, List.set_cons_zero, List.set_cons_succ]
          refine HeldU.wpAnyU_take (i := 14) (v := ?_) rfl (by kernel_rfl) (by kernel_rfl) (by kernel_rfl) (by kernel_rfl) (by rfl) (fun _ _ _ h => h) (Or.inl ⟨by rfl, ?_⟩) (by assumption) ?_
          rotate_left
          · intro w hSw
            try dsimp only at hSw
            go_simp
            try with_reducible rfl
          try simp only [Act.put, List.getElem_toArray, List.getElem_cons_zero, List.getElem_cons_succ, List.setIfInBounds_toArray, List.set_cons_zero, List.set_cons_succ]
          refine HeldU.wpAnyU_ready (rs := [15]) (by kernel_rfl) (by simp) ?_
          refine HeldU.AllReadyU.cons rfl (fun K hK => ?_) HeldU.AllReadyU.nil
          have hg8 := HGG.out _ HG8.out
          obtain ⟨d0, d1, d2, d3⟩ := hg8
          have z0 := Gn.frozen_row HG8.out (p * 4)
          have z1 := Gn.frozen_row HG8.out (p * 4 + 1)
          have z2 := Gn.frozen_row HG8.out (p * 4 + 2)
          have z3 := Gn.frozen_row HG8.out (p * 4 + 3)
          go_simp
          have HX9 := Lib.hid (show (setA w8 g3 (p * 4) ⟨s0, s1, s2, s3⟩).heap[xb]? = _ from (setA_keep hbx _ _).trans HX8.out)
          have HP9 := Lib.hid (HP8.out.spoil p HPL.out ⟨s0, s1, s2, s3⟩)
          clear d0 d1 d2 d3 z0 z1 z2 z3
          refine hK.out _ _ ⟨HFF.out _ HX9.out, fun h => Bool.noConfusion (show true = false from h)⟩ (fun hHeld => ?_)
          clear hK K
          try simp only [Act.put, List.getElem_toArray, List.getElem_cons_zero, List.getElem_cons_succ, List.setIfInBounds_toArray, List.set_cons_zero, List.set_cons_succ]
          refine HeldU.wpAnyU_ready (rs := [16]) (by kernel_rfl) (by simp) ?_
          refine HeldU.AllReadyU.cons rfl (fun K hK => ?_) HeldU.AllReadyU.nil
          go_simp
          refine hK.out _ _ ⟨HFF.out _ HX9.out, fun h => Bool.noConfusion (show true = false from h)⟩ (fun hHeld => ?_)
          clear hK K
          try simp only [Act.put, List.getElem_toArray, List.getElem_cons_zero, List.getElem_cons_succ, List.setIfInBounds_toArray, List.set_cons_zero, List.set_cons_succ]
          refine HeldU.wpAnyU_done (by kernel_rfl) ?_ _
          refine NoPanic.normal ?_
          obtain ⟨w9, hw9⟩ : ∃ x, x = setA w8 g3 (p * 4) ⟨s0, s1, s2, s3⟩ := ⟨_, rfl⟩
          rw [← hw9] at HX9 HP9
          unfold setA at hw9
          simp only at hw9
          rw [← hw9]
          have HW9 := Lib.hid hw9
          have hx9 := HX9.out
          have x1 := cell_of_row _ _ 1 _ _ (0, 0) hx9
          have x2 := cell_of_row _ _ 2 _ _ (0, 0) hx9
          have x3 := cell_of_row _ _ 3 _ _ (0, 0) hx9
          clear hw9 hx9 HW9
          obtain ⟨fs9, hfs9⟩ : ∃ x, x = fs.set p ⟨s0, s1, s2, s3⟩ := ⟨_, rfl⟩
          have HS := Lib.hid (spoil_any HP9.out.net yi ya yv HLS.out.few HP9.out.size HLS.out.siz)
          unfold SplT at HS
          rw [HSB.out.1, HSB.out.2, ← hfs9] at HS
          rw [← hfs9] at HP9
          have HM9 := Lib.hid (show m = fs9.length by rw [hfs9, List.length_set]; exact HM.out)
          have HLS9 := Lib.hid (show Lst fs9 by rw [hfs9, ← HSB.out.2]; exact HLS.out.spoil yi ya yv)
          clear hfs9
          go_wp2_with fail
          refine HS.out.mono ?_
          rintro e w10 ⟨rfl, h3, s3⟩
          have HPA9 := Lib.hid (HP9.out.deed h3 s3)
          clear h3 s3
          go_wp2_with fail
          refine (show Calls Try.prog 13 #[.pointer (some ⟨b, 0, none⟩)] _ (IsN (m : Nat) _) from by have := count_self HPA9.out.net; rw [← HM9.out] at this; exact this).mono ?_
          rintro e wq ⟨rfl, rfl⟩
          go_wp2_with fail
          go_roundw
          case rel => exact ⟨k + 1, fs9, (some ⟨g3, 0, none⟩), c7, by omega, by omega, by rw [HM9.out], by go_num, by have := HPA9.out; rw [HM9.out] at this; exact this, HLS9.out⟩
          case measure => simp [intOf]; omega
      · subst h6
        as_aux_lemma =>
        by_cases hm0 : m = 0
        · have hfs0 : fs = [] := List.eq_nil_of_length_eq_zero (by rw [← HM.out]; omega)
          have HLK := Lib.hid (look_self HP2.out.net yi HLS.out.few)
          rw [hfs0] at HLK
          have HLK := Lib.hid (show Calls Try.prog 12 #[.pointer (some ⟨b, 0, none⟩), .int .i64 yi] w2 (fun e w' => e = .returned (.tuple #[.agg #[.int .i64 0, .int .i64 0, .string ⟨#[]⟩, .bool false], .bool false]) ∧ Below w2.heap.size w2 w') from HLK.out)
          clear hfs0
          have hng : ¬ 0 < m := by omega
          clear hm0
          have hbn := bneq_run false false
          go_wp2_with fail
          refine HLK.out.mono ?_
          rintro e w3 ⟨rfl, b3⟩
          obtain ⟨w4, hw4⟩ : ∃ x, x = w3.alloc (.cells #[.int .i64 0, .int .i64 0, .string ⟨#[]⟩, .bool false] 35) := ⟨_, rfl⟩
          have HP4 := Lib.hid (show PS w b fs fs (.slice A m cap) w4 by rw [hw4]; exact HP2.out.below (b3.alloc b3.size _))
          have HW4 := Lib.hid hw4
          clear b3 hw4
          go_upto_region 21 with fail
          rw [← HW4.out]
          go_quiet (fail)
          obtain ⟨w5, hw5⟩ : ∃ x, x = w4.drewN nq := ⟨_, rfl⟩
          rw [← hw5]
          have HP5 := Lib.hid (show PS w b fs fs (.slice A m cap) w5 by rw [hw5]; exact HP4.out.below (Gn.below_drewN (Below.refl _ _) _))
          clear hw5
          go_wp2_with fail
          refine (show Calls Try.prog 13 #[.pointer (some ⟨b, 0, none⟩)] _ (IsN (m : Nat) _) from by have := count_self HP5.out.net; rw [← HM.out] at this; exact this).mono ?_
          rintro e wq ⟨rfl, rfl⟩
          go_wp2_with fail
          go_roundw
          case rel => exact ⟨k + 1, fs, A, cap, by omega, by omega, by rw [HM.out], by go_num, by have := HP5.out; rw [HM.out] at this; exact this, HLS.out⟩
          case measure => simp [intOf]; omega
        · have HPL := Lib.hid (show p < fs.length by rw [← HM.out, HPN.out]; exact plN_lt yi (by omega))
          have hpa : pa = (p : Int) := by rw [HPA.out, if_neg (by omega)]
          rw [hpa]
          obtain ⟨⟨f0, f1, f2, f3⟩, hf⟩ : ∃ f, f = fs[p]'HPL.out := ⟨_, rfl⟩
          have HAT := Lib.hid (show atF fs yi = ⟨f0, f1, f2, f3⟩ by rw [atF_some (p := p) (by rw [HPN.out, HM.out]) HPL.out]; exact hf.symm)
          have HPF := Lib.hid hf
          have hpm : (p : Int) < (m : Int) := by have := HPL.out; rw [← HM.out] at this; omega
          have hpm2 : p < m := by omega
          clear hf hpa
          have HLK := Lib.hid (look_self HP2.out.net yi HLS.out.few)
          unfold LookT AGF at HLK
          rw [HAT.out, ← HM.out, decide_eq_true (show 0 < m by omega)] at HLK
          simp only at HLK
          have hgg : 0 < m := by omega
          have hbn := bneq_run true true
          have hnr := neq_rf f0 f1 f2 f3
          go_wp2_with fail
          refine HLK.out.mono ?_
          rintro e w3 ⟨rfl, b3⟩
          obtain ⟨w4, hw4⟩ : ∃ x, x = w3.alloc (.cells #[.int .i64 f0, .int .i64 f1, .string f2, .bool f3] 35) := ⟨_, rfl⟩
          obtain ⟨q4, hq4⟩ : ∃ x, x = w3.heap.size := ⟨_, rfl⟩
          have hx4 : w4.heap[q4]? = some (.cells #[.int .i64 f0, .int .i64 f1, .string f2, .bool f3] 35 (0, 0)) := by rw [hw4, hq4]; exact heap_alloc_new _ _
          have y0 := cell_of_row _ _ 0 _ _ (0, 0) hx4
          have y1 := cell_of_row _ _ 1 _ _ (0, 0) hx4
          have y2 := cell_of_row _ _ 2 _ _ (0, 0) hx4
          have y3 := cell_of_row _ _ 3 _ _ (0, 0) hx4
          have HP4 := Lib.hid (show PS w b fs fs (.slice A m cap) w4 by rw [hw4]; exact HP2.out.below (b3.alloc b3.size _))
          obtain ⟨g2, cur2, hAs, hg2, hbg2, -, hnc2, hcm2, hcs2, hct2, hget2⟩ := HP4.out.get p HPL.out
          subst hAs
          rw [← HM.out] at hnc2 hct2
          have d0 : _ = some (Value.int .i64 f0) := (cell_of_row _ _ (p * 4) _ _ (0, 0) hg2).trans (by rw [show p * 4 = p * 4 + 0 from rfl, hget2 0 (by omega), ← HPF.out]; rfl)
          have d1 : _ = some (Value.int .i64 f1) := (cell_of_row _ _ (p * 4 + 1) _ _ (0, 0) hg2).trans (by rw [hget2 1 (by omega), ← HPF.out]; rfl)
          have d2 : _ = some (Value.string f2) := (cell_of_row _ _ (p * 4 + 2) _ _ (0, 0) hg2).trans (by rw [hget2 2 (by omega), ← HPF.out]; rfl)
          have d3 : _ = some (Value.bool f3) := (cell_of_row _ _ (p * 4 + 3) _ _ (0, 0) hg2).trans (by rw [hget2 3 (by omega), ← HPF.out]; rfl)
          have HG2 := Lib.hid hg2
          have HCT2 := Lib.hid hct2
          have HCS2 := Lib.hid hcs2
          clear hg2 hbg2 hcs2 hct2 hget2
          have HW4 := Lib.hid hw4
          have HQ4 := Lib.hid hq4
          clear b3 hw4 hq4 hx4
          go_upto_region 21 with fail
          rw [← HW4.out, ← HQ4.out]
          go_quiet (fail)
          obtain ⟨w5, hw5⟩ : ∃ x, x = w4.drewN nq := ⟨_, rfl⟩
          rw [← hw5]
          have HP5 := Lib.hid (show PS w b fs fs (.slice (some ⟨g2, 0, none⟩) m cap) w5 by rw [hw5]; exact HP4.out.below (Gn.below_drewN (Below.refl _ _) _))
          clear hw5 d0 d1 d2 d3 y0 y1 y2 y3
          go_wp2_with fail
          refine (show Calls Try.prog 13 #[.pointer (some ⟨b, 0, none⟩)] _ (IsN (m : Nat) _) from by have := count_self HP5.out.net; rw [← HM.out] at this; exact this).mono ?_
          rintro e wq ⟨rfl, rfl⟩
          go_wp2_with fail
          go_roundw
          case rel => exact ⟨k + 1, fs, (some ⟨g2, 0, none⟩), cap, by omega, by omega, by rw [HM.out], by go_num, by have := HP5.out; rw [HM.out] at this; exact this, HLS.out⟩
          case measure => simp [intOf]; omega
    · obtain ⟨m, hm⟩ : ∃ x, x = fs.length := ⟨_, rfl⟩
      rw [← hm] at HP ⊢
      have HM := Lib.hid hm
      clear hm
      by_cases hkn2 : k < n
      · have hi1 : (k : Int) < (n : Int) := by omega
        have hi2 : ¬ (k : Int) < 40 := by omega
        clear hk
        as_aux_lemma =>
        have hm9 : m ≤ 1024 := by rw [HM.out]; exact HLS.out.few
        go_wp2_with fail
        go_loopw [19] (fun i wr => ∃ j : Nat, j ≤ m ∧ i = .int .i64 j ∧ PS w b fs (fs.drop j) (.slice A m cap) wr) (fun i _ => m - (intOf i).toNat)
        case atStart => exact ⟨0, by omega, rfl, HP.out⟩
        case round =>
          obtain ⟨j, hjm, rfl, hps⟩ := hrel
          have HPJ := Lib.hid hps
          clear hps
          by_cases hlt : j < m
          · have hlti : (j : Int) < (m : Int) := by omega
            have HPL := Lib.hid (show j < fs.length by rw [← HM.out]; exact hlt)
            obtain ⟨⟨f0, f1, f2, f3⟩, hf⟩ : ∃ f, f = fs[j]'HPL.out := ⟨_, rfl⟩
            have HPF := Lib.hid hf
            have HTK := Lib.hid (take_any HPJ.out.net 0 (by rw [List.length_drop]; have := HLS.out.few; omega) HPJ.out.size)
            unfold TakeT AGF at HTK
            rw [drop_at HPL.out, ← hf, drop_rem, decide_eq_true (show 0 < (fs.drop j).length by rw [List.length_drop]; have := HPL.out; omega)] at HTK
            simp only at HTK
            have hnr := neq_rf f0 f1 f2 f3
            have hnn := not_run true
            clear hf
            go_wp2_with fail
            refine HTK.out.mono ?_
            rintro e w3 ⟨rfl, h3, s3, -⟩
            have HP3 := Lib.hid (HPJ.out.deed h3 s3)
            obtain ⟨w4, hw4⟩ : ∃ x, x = w3.alloc (.cells #[.int .i64 f0, .int .i64 f1, .string f2, .bool f3] 35) := ⟨_, rfl⟩
            obtain ⟨q4, hq4⟩ : ∃ x, x = w3.heap.size := ⟨_, rfl⟩
            have hx4 : w4.heap[q4]? = some (.cells #[.int .i64 f0, .int .i64 f1, .string f2, .bool f3] 35 (0, 0)) := by rw [hw4, hq4]; exact heap_alloc_new _ _
            have y0 := cell_of_row _ _ 0 _ _ (0, 0) hx4
            have y1 := cell_of_row _ _ 1 _ _ (0, 0) hx4
            have y2 := cell_of_row _ _ 2 _ _ (0, 0) hx4
            have y3 := cell_of_row _ _ 3 _ _ (0, 0) hx4
            have HP4 := Lib.hid (show PS w b fs (fs.drop (j + 1)) (.slice A m cap) w4 by rw [hw4]; exact HP3.out.below ((Below.refl _ _).alloc (Nat.le_refl _) _))
            obtain ⟨g2, cur2, hAs, hg2, hbg2, -, hnc2, hcm2, hcs2, hct2, hget2⟩ := HP4.out.get j HPL.out
            subst hAs
            rw [← HM.out] at hnc2 hct2
            have d0 : _ = some (Value.int .i64 f0) := (cell_of_row _ _ (j * 4) _ _ (0, 0) hg2).trans (by rw [show j * 4 = j * 4 + 0 from rfl, hget2 0 (by omega), ← HPF.out]; rfl)
            have d1 : _ = some (Value.int .i64 f1) := (cell_of_row _ _ (j * 4 + 1) _ _ (0, 0) hg2).trans (by rw [hget2 1 (by omega), ← HPF.out]; rfl)
            have d2 : _ = some (Value.string f2) := (cell_of_row _ _ (j * 4 + 2) _ _ (0, 0) hg2).trans (by rw [hget2 2 (by omega), ← HPF.out]; rfl)
            have d3 : _ = some (Value.bool f3) := (cell_of_row _ _ (j * 4 + 3) _ _ (0, 0) hg2).trans (by rw [hget2 3 (by omega), ← HPF.out]; rfl)
            have HG2 := Lib.hid hg2
            have HCT2 := Lib.hid hct2
            have HCS2 := Lib.hid hcs2
            clear hg2 hbg2 hcs2 hct2 hget2
            have HW4 := Lib.hid hw4
            have HQ4 := Lib.hid hq4
            clear h3 s3 hw4 hq4 hx4
            go_upto_region 55 with fail
            rw [← HW4.out, ← HQ4.out]
            go_quiet (fail)
            obtain ⟨w5, hw5⟩ : ∃ x, x = w4.drewN nq := ⟨_, rfl⟩
            rw [← hw5]
            have HP5 := Lib.hid (show PS w b fs (fs.drop (j + 1)) (.slice (some ⟨g2, 0, none⟩) m cap) w5 by rw [hw5]; exact HP4.out.below (Gn.below_drewN (Below.refl _ _) _))
            clear hw5 y0 y1 y2 y3 d0 d1 d2 d3
            go_wp2_with fail
            go_roundw
            case rel => exact ⟨j + 1, by have := HPL.out; have := HM.out; omega, by go_num, HP5.out⟩
            case measure => have := HPL.out; have := HM.out; simp [intOf]; omega
          · have hlti : ¬ (j : Int) < (m : Int) := by omega
            have hje : (fs.drop j).length = 0 := by rw [List.length_drop, ← HM.out]; omega
            have HCT := Lib.hid (count_self HPJ.out.net)
            rw [hje] at HCT
            clear hje
            go_wp2_with fail
            refine HCT.out.mono ?_
            rintro e wq ⟨rfl, rfl⟩
            rw [show ((0 : Nat) : Int) = 0 from rfl]
            go_wp2_with fail
            go_ret
            exact ⟨rfl, HPJ.out.bel⟩
      · have hi1 : ¬ (k : Int) < (n : Int) := by omega
        clear hk
        as_aux_lemma =>
        have hm9 : m ≤ 1024 := by rw [HM.out]; exact HLS.out.few
        go_wp2_with fail
        go_loopw [19] (fun i wr => ∃ j : Nat, j ≤ m ∧ i = .int .i64 j ∧ PS w b fs (fs.drop j) (.slice A m cap) wr) (fun i _ => m - (intOf i).toNat)
        case atStart => exact ⟨0, by omega, rfl, HP.out⟩
        case round =>
          obtain ⟨j, hjm, rfl, hps⟩ := hrel
          have HPJ := Lib.hid hps
          clear hps
          by_cases hlt : j < m
          · have hlti : (j : Int) < (m : Int) := by omega
            have HPL := Lib.hid (show j < fs.length by rw [← HM.out]; exact hlt)
            obtain ⟨⟨f0, f1, f2, f3⟩, hf⟩ : ∃ f, f = fs[j]'HPL.out := ⟨_, rfl⟩
            have HPF := Lib.hid hf
            have HTK := Lib.hid (take_any HPJ.out.net 0 (by rw [List.length_drop]; have := HLS.out.few; omega) HPJ.out.size)
            unfold TakeT AGF at HTK
            rw [drop_at HPL.out, ← hf, drop_rem, decide_eq_true (show 0 < (fs.drop j).length by rw [List.length_drop]; have := HPL.out; omega)] at HTK
            simp only at HTK
            have hnr := neq_rf f0 f1 f2 f3
            have hnn := not_run true
            clear hf
            go_wp2_with fail
            refine HTK.out.mono ?_
            rintro e w3 ⟨rfl, h3, s3, -⟩
            have HP3 := Lib.hid (HPJ.out.deed h3 s3)
            obtain ⟨w4, hw4⟩ : ∃ x, x = w3.alloc (.cells #[.int .i64 f0, .int .i64 f1, .string f2, .bool f3] 35) := ⟨_, rfl⟩
            obtain ⟨q4, hq4⟩ : ∃ x, x = w3.heap.size := ⟨_, rfl⟩
            have hx4 : w4.heap[q4]? = some (.cells #[.int .i64 f0, .int .i64 f1, .string f2, .bool f3] 35 (0, 0)) := by rw [hw4, hq4]; exact heap_alloc_new _ _
            have y0 := cell_of_row _ _ 0 _ _ (0, 0) hx4
            have y1 := cell_of_row _ _ 1 _ _ (0, 0) hx4
            have y2 := cell_of_row _ _ 2 _ _ (0, 0) hx4
            have y3 := cell_of_row _ _ 3 _ _ (0, 0) hx4
            have HP4 := Lib.hid (show PS w b fs (fs.drop (j + 1)) (.slice A m cap) w4 by rw [hw4]; exact HP3.out.below ((Below.refl _ _).alloc (Nat.le_refl _) _))
            obtain ⟨g2, cur2, hAs, hg2, hbg2, -, hnc2, hcm2, hcs2, hct2, hget2⟩ := HP4.out.get j HPL.out
            subst hAs
            rw [← HM.out] at hnc2 hct2
            have d0 : _ = some (Value.int .i64 f0) := (cell_of_row _ _ (j * 4) _ _ (0, 0) hg2).trans (by rw [show j * 4 = j * 4 + 0 from rfl, hget2 0 (by omega), ← HPF.out]; rfl)
            have d1 : _ = some (Value.int .i64 f1) := (cell_of_row _ _ (j * 4 + 1) _ _ (0, 0) hg2).trans (by rw [hget2 1 (by omega), ← HPF.out]; rfl)
            have d2 : _ = some (Value.string f2) := (cell_of_row _ _ (j * 4 + 2) _ _ (0, 0) hg2).trans (by rw [hget2 2 (by omega), ← HPF.out]; rfl)
            have d3 : _ = some (Value.bool f3) := (cell_of_row _ _ (j * 4 + 3) _ _ (0, 0) hg2).trans (by rw [hget2 3 (by omega), ← HPF.out]; rfl)
            have HG2 := Lib.hid hg2
            have HCT2 := Lib.hid hct2
            have HCS2 := Lib.hid hcs2
            clear hg2 hbg2 hcs2 hct2 hget2
            have HW4 := Lib.hid hw4
            have HQ4 := Lib.hid hq4
            clear h3 s3 hw4 hq4 hx4
            go_upto_region 55 with fail
            rw [← HW4.out, ← HQ4.out]
            go_quiet (fail)
            obtain ⟨w5, hw5⟩ : ∃ x, x = w4.drewN nq := ⟨_, rfl⟩
            rw [← hw5]
            have HP5 := Lib.hid (show PS w b fs (fs.drop (j + 1)) (.slice (some ⟨g2, 0, none⟩) m cap) w5 by rw [hw5]; exact HP4.out.below (Gn.below_drewN (Below.refl _ _) _))
            clear hw5 y0 y1 y2 y3 d0 d1 d2 d3
            go_wp2_with fail
            go_roundw
            case rel => exact ⟨j + 1, by have := HPL.out; have := HM.out; omega, by go_num, HP5.out⟩
            case measure => have := HPL.out; have := HM.out; simp [intOf]; omega
          · have hlti : ¬ (j : Int) < (m : Int) := by omega
            have hje : (fs.drop j).length = 0 := by rw [List.length_drop, ← HM.out]; omega
            have HCT := Lib.hid (count_self HPJ.out.net)
            rw [hje] at HCT
            clear hje
            go_wp2_with fail
            refine HCT.out.mono ?_
            rintro e wq ⟨rfl, rfl⟩
            rw [show ((0 : Nat) : Int) = 0 from rfl]
            go_wp2_with fail
            go_ret
            exact ⟨rfl, HPJ.out.bel⟩
theorem plays_any (w : World) (l : List Ac) (v : Value) (hv : AcsIn w l v) (_ : l.length ≤ maxLen) (_ : ∀ d ∈ l, ShortA d) (fill : Int) (_ : (Lit.int .i64 fill).wf = true) :
    Calls Try.prog 3 #[v, .int .i64 fill] w fun e w' => e = .returned (.bool true) ∧ Below w.heap.size w w' := plays_walk l fill w v hv
end Go.Proofs.Ytdkigbaodbkebaa.Nt
