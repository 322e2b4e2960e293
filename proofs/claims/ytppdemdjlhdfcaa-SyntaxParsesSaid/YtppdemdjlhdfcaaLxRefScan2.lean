/-
  The walk of the document's plain Scan.
-/
import Derived.Test.YtppdemdjlhdfcaaLxRefScan
namespace Go.Proofs.Ytppdemdjlhdfcaa.Lx
open Go.RowKit
set_option maxRecDepth 100000

/-- How far a comment is. -/
def CmAt (s : ByteArray) (P L C Q : Nat) : Prop := scanG false (bs (cut s P)) L C = scanG true (bs (cut s Q)) L (C + (Q - P)) ∧ plc ((bs s).take Q) 1 1 = (L, C + (Q - P))
theorem cm_start {s : ByteArray} {P L C : Nat} (hP : P < s.size) (hpl : (L, C) = plc ((bs s).take P) 1 1) (h35 : s[P].toNat = 35) : CmAt s P L C P := by
  refine ⟨?_, by rw [← hpl]; simp⟩
  rw [cut_cons s P hP, scan_comment _ _ _ _ _ (by omega) (.inr h35), scan_comment true _ _ _ _ (by omega) (.inl rfl)]
  simp
theorem cm_step {s : ByteArray} {P L C Q : Nat} (hPQ : P ≤ Q) (hQ : Q < s.size) (h : CmAt s P L C Q) (h10 : s[Q].toNat ≠ 10) : CmAt s P L C (Q + 1) := by
  obtain ⟨h1, h2⟩ := h
  constructor
  · rw [h1, cut_cons s Q hQ, scan_comment _ _ _ _ _ h10 (.inl rfl)]
    congr 1; omega
  · rw [plc_snoc s Q hQ 1 1, if_neg h10, h2]
    simp only; congr 1; omega
theorem cm_stop {s : ByteArray} {P L C Q : Nat} (h : CmAt s P L C Q) (hQ : Q = s.size ∨ ∃ hq : Q < s.size, s[Q].toNat = 10) : scanG false (bs (cut s P)) L C = scanG false (bs (cut s Q)) (plc ((bs s).take Q) 1 1).1 (plc ((bs s).take Q) 1 1).2 := by
  obtain ⟨h1, h2⟩ := h
  rw [h1, h2]
  rcases hQ with rfl | ⟨hq, h10⟩
  · rw [cut_nil, scan_end, scan_end]
  · rw [cut_cons s Q hq, scan_cm_nl _ _ _ _ h10]
theorem rs_at {s : ByteArray} {tot : List Tk × (Nat × Nat × Nat)} {w wr : World} {P cap Q : Nat} {A : Option Addr} {acc : List Tk} {L C : Nat} (h : RsHead s tot w wr P cap A acc L C) (hPQ : P ≤ Q) (hQ : Q ≤ s.size)
    (he : scanG false (bs (cut s P)) L C = scanG false (bs (cut s Q)) (plc ((bs s).take Q) 1 1).1 (plc ((bs s).take Q) 1 1).2) : RsAt s tot w wr (.slice A acc.length cap) (.int .i64 Q) :=
  ⟨Q, cap, A, acc, rfl, rfl, hQ, by have := h.acc_le; omega, by rw [h.rl, he], h.own, h.rf, h.bel⟩

/-- A token taken: what is told goes on behind it. -/
theorem rs_tok {s : ByteArray} {tot : List Tk × (Nat × Nat × Nat)} {w wr : World} {P cap : Nat} {A : Option Addr} {acc : List Tk} {L C : Nat} (h : RsHead s tot w wr P cap A acc L C) (hP : P < s.size) (h35 : s[P].toNat ≠ 35) (hb : blankN s[P].toNat = false) (t : Tk) (n : Nat) (hk : t.kind ≠ 4)
    (hr : rtok (bs (cut s P)) L C = (t, (0, 0, 0), n)) : P + n ≤ s.size ∧ tot = pre (acc ++ [t]) (scanG false (bs (cut s (P + n))) (plc ((bs s).take (P + n)) 1 1).1 (plc ((bs s).take (P + n)) 1 1).2) := by
  have hle := rtok_le (bs (cut s P)) L C
  have hfl := rtok_flat (bs (cut s P)) L C
  rw [hr] at hle hfl
  rw [bs_len, cut_size] at hle
  simp only at hle hfl
  have hpn : P + n ≤ s.size := by omega
  refine ⟨hpn, ?_⟩
  rw [plc_take s P n hpn hfl, ← h.pl, h.rl, scan_here s P L C hP h35 hb, scanT, hr, if_neg (by simp), if_neg hk, pre_pre]
  simp only
  rw [← bs_cut, cut_cut]
theorem rs_bad {s : ByteArray} {tot : List Tk × (Nat × Nat × Nat)} {w wr : World} {P cap : Nat} {A : Option Addr} {acc : List Tk} {L C : Nat} (h : RsHead s tot w wr P cap A acc L C) (hP : P < s.size) (h35 : s[P].toNat ≠ 35) (hb : blankN s[P].toNat = false) (t : Tk) (f : Nat × Nat × Nat) (n : Nat) (hf : f.2.2 ≠ 0)
    (hr : rtok (bs (cut s P)) L C = (t, f, n)) : tot = ([], f) := by
  rw [h.rl, scan_here s P L C hP h35 hb, scanT, hr, if_pos hf, pre_err _ _ hf]

set_option maxRecDepth 100000 in
set_option maxHeartbeats 8000000 in
theorem rscan_any (s : ByteArray) (w : World) (hs : s.size ≤ 1048576) :
    Calls Try.prog 13 #[.string s] w (RScanned w (scanS (bs s))) := by
  by_cases hlong : 65536 < s.size
  · have hR : scanS (bs s) = ([], (0, 0, 6)) := by rw [scanS, if_pos (by rw [bs_len]; exact hlong)]
    rw [hR]
    clear hR
    go_enter Try.func13, Try.ntmps13
    go_wp2
    exact bodyPost_ret (results_tmp_cell (P := Try.prog) rfl _ _ w.heap.size 35 _ (0, 0) _ _ rfl rfl (heap_alloc_new w _) Try.underlying35 rfl rfl) rfl ⟨none, 0, rfl, World.ownsRow_nil _ _ _ _, (Below.refl _ _).alloc (Nat.le_refl _) _⟩
  · have hR : scanS (bs s) = scanG false (bs s) 1 1 := by rw [scanS, if_neg (by rw [bs_len]; exact hlong)]
    rw [hR]
    obtain ⟨tot, htot⟩ : ∃ tot, tot = scanG false (bs s) 1 1 := ⟨_, rfl⟩
    rw [← htot]
    have HT := Lib.hid htot
    clear hR htot
    obtain ⟨i0, hi0, hz0, hz1, hz2⟩ := info_parts rtkinfo
    go_enter Try.func13, Try.ntmps13
    go_wp2
    go_loopw [4, 5] (fun v p wr => RsAt s tot w wr v p) (fun _ p _ => s.size - (intOf p).toNat)
    case atStart =>
      refine ⟨0, 0, none, [], rfl, rfl, by omega, by simp, ?_, World.ownsRow_nil _ _ _ _, heap_alloc_new w _, (Below.refl _ _).alloc (Nat.le_refl _) _⟩
      rw [cut_zero, pre_nil _ (scanG_err _ _ _ _), HT.out]
      rfl
    case round =>
      obtain ⟨P, cap, A, acc, rfl, rfl, hP, hacc, hrl, hown, hf, hbel⟩ := hrel
      have hbd := plc_bd ((bs s).take P) 1 1 (by omega)
      rw [List.length_take, bs_len] at hbd
      have hwr := hbel.size
      by_cases hPs : P < s.size
      · have KP := fun W => place_any s P W (by omega) hs
        obtain ⟨⟨L, C⟩, hLC⟩ : ∃ x, x = plc ((bs s).take P) 1 1 := ⟨_, rfl⟩
        rw [← hLC] at hrl hbd KP
        have HH := Lib.hid (show RsHead s tot w wr P cap A acc L C from ⟨hacc, hLC, hrl, hown, hf, hbel⟩)
        have KP1 := Lib.hid KP
        have hLb : L ≤ 1 + P := by simp only at hbd; omega
        have hCb : C ≤ 1 + P := by simp only at hbd; omega
        obtain ⟨c, hc⟩ : ∃ c, c = s[P] := ⟨_, rfl⟩
        have hlt := c.toNat_lt
        have hx : ∀ h, s[P]'h = c := fun _ => hc.symm
        have HC := Lib.hid hc
        clear hrl hown hf hbel KP hLC hbd hc
        go_wp2_with fail
        refine (KP1.out _).mono ?_
        rintro e w1 ⟨rfl, rfl⟩
        simp only
        cases hbl : blankN c.toNat
        · have nb : c.toNat ≠ 32 ∧ c.toNat ≠ 9 ∧ c.toNat ≠ 10 ∧ c.toNat ≠ 13 := by simp [blankN] at hbl; omega
          obtain ⟨m1, m2, m3, m4⟩ := nb
          have b1 : ((c.toNat : Int) == 32) = false := by rw [beq_eq_false_iff_ne]; omega
          have b2 : ((c.toNat : Int) == 9) = false := by rw [beq_eq_false_iff_ne]; omega
          have b3 : ((c.toNat : Int) == 10) = false := by rw [beq_eq_false_iff_ne]; omega
          have b4 : ((c.toNat : Int) == 13) = false := by rw [beq_eq_false_iff_ne]; omega
          by_cases h35 : c.toNat = 35
          · have b5 : ((c.toNat : Int) == 35) = true := by rw [beq_iff_eq]; omega
            have HCM := Lib.hid (cm_start hPs HH.out.pl (by rw [← HC.out]; exact h35))
            clear hbl
            go_wp2
            go_loop [5] (fun p => ∃ Q : Nat, P ≤ Q ∧ Q ≤ s.size ∧ p = .int .i64 Q ∧ CmAt s P L C Q) (fun p => s.size - (intOf p).toNat)
            case atStart => exact ⟨P, by omega, by omega, rfl, HCM.out⟩
            case round =>
              obtain ⟨Q, hPQ, hQ, rfl, hcm⟩ := hrel
              have HCQ := Lib.hid hcm
              clear hcm HCM
              by_cases hQs : Q < s.size
              · have hxq := Lib.hid (rfl : s[Q] = s[Q])
                by_cases h10 : s[Q].toNat = 10
                · have d1 : ((s[Q].toNat : Int) != 10) = false := by rw [h10]; rfl
                  have hne : P ≠ Q := by
                    intro e; subst e
                    rw [← HC.out] at h10; omega
                  have hfin := Lib.hid (rs_at HH.out hPQ hQ (cm_stop HCQ.out (.inr ⟨hQs, h10⟩)))
                  clear h10 hx
                  go_wp2
                  first
                    | exact ⟨hfin.out, by simp [intOf]; omega⟩
                    | (go_roundw
                       case rel => exact hfin.out
                       case measure => simp [intOf]; omega)
                · have d1 : ((s[Q].toNat : Int) != 10) = true := by rw [bne_iff_ne]; omega
                  have HN := Lib.hid (cm_step hPQ hQs HCQ.out h10)
                  clear h10 hx
                  go_wp2
                  go_round
                  case rel => exact ⟨Q + 1, by omega, by omega, by go_num, HN.out⟩
                  case measure => simp [intOf]; omega
              · have hQe : Q = s.size := by omega
                have hfin := Lib.hid (rs_at HH.out hPQ hQ (cm_stop HCQ.out (.inl hQe)))
                clear hx hQe
                go_wp2
                first
                  | exact ⟨hfin.out, by simp [intOf]; omega⟩
                  | (go_roundw
                     case rel => exact hfin.out
                     case measure => simp [intOf]; omega)
          · have b5 : ((c.toNat : Int) == 35) = false := by rw [beq_eq_false_iff_ne]; omega
            have hs35 : s[P].toNat ≠ 35 := by rw [← HC.out]; exact h35
            have hsbl : blankN s[P].toNat = false := by rw [← HC.out]; exact hbl
            have hrt := rtok_here s P L C hPs
            rw [← HC.out] at hrt
            have HRT := Lib.hid hrt
            have HS35 := Lib.hid hs35
            have HSB := Lib.hid hsbl
            have KL := Lib.hid (fun W => rletter_any c.toNat W)
            clear hrt hs35 hsbl hbl
            go_wp2_with fail
            refine (KL.out _).mono ?_
            rintro e w2 ⟨rfl, rfl⟩
            cases hlet : letterN c.toNat
            · have hrt := HRT.out
              rw [if_neg (by rw [hlet]; simp)] at hrt
              clear HRT
              have HRT := Lib.hid hrt
              clear hrt
              have hb3a := HH.out.own
              cases hqu : quoteN c.toNat
              · have hrt := HRT.out
                rw [if_neg (by rw [hqu]; simp)] at hrt
                clear HRT
                have HRT := Lib.hid hrt
                have n1 : ((c.toNat : Int) == 39) = false := by simp [quoteN] at hqu; rw [beq_eq_false_iff_ne]; omega
                have n2 : ((c.toNat : Int) == 34) = false := by simp [quoteN] at hqu; rw [beq_eq_false_iff_ne]; omega
                clear hrt hqu hb3a
                go_wp2
                go_loop [13, 15] (fun sg i => ∃ k : Nat, k ≤ 13 ∧ i = .int .i64 k ∧ sg = .bool (sgn k c)) (fun _ i => 13 - (intOf i).toNat)
                case atStart => exact ⟨0, by omega, rfl, rfl⟩
                case round =>
                  obtain ⟨k, hk, rfl, rfl⟩ := hrel
                  by_cases hk13 : k < 13
                  · have hsu := sgn_succ k c hk13
                    obtain ⟨y, hy⟩ : ∃ y, y = signsB[k]'hk13 := ⟨_, rfl⟩
                    have hyx : ∀ h, sgL[k]'h = y := fun _ => hy.symm
                    rw [← hy] at hsu
                    have hkI : (k : Int) < 13 := by omega
                    cases hsg : sgn k c
                    · rw [hsg, Bool.false_or] at hsu
                      cases hyc : ((y.toNat : Int) == c.toNat)
                      all_goals
                        rw [hyc] at hsu
                        have HSU := Lib.hid hsu
                        have HSG := Lib.hid hsg
                        clear hsu hy
                        go_wp2
                        go_round
                        case rel => exact ⟨k + 1, by omega, by go_num, by rw [HSU.out]⟩
                        case measure => simp [intOf]; omega
                    · rw [hsg, Bool.true_or] at hsu
                      have HSU := Lib.hid hsu
                      clear hsu hy hyx
                      go_wp2
                      go_round
                      case rel => exact ⟨k + 1, by omega, by go_num, by rw [HSU.out]⟩
                      case measure => simp [intOf]; omega
                  · obtain rfl : k = 13 := by omega
                    rw [sgn_end c]
                    cases hsn : signN c.toNat
                    · have hrt := HRT.out
                      rw [if_neg (by rw [hsn]; simp)] at hrt
                      have hbad := Lib.hid (rs_bad HH.out hPs HS35.out HSB.out _ _ _ (by simp) hrt)
                      obtain ⟨z0, z1, z2, zf⟩ := HH.out.rf.facts
                      clear hrt
                      go_wp2
                      exact rs_fault hbad.out HH.out.rf HH.out.bel _ rfl rfl
                    · have hrt := HRT.out
                      rw [if_pos hsn] at hrt
                      have ht := rs_tok HH.out hPs HS35.out HSB.out _ 1 (by simp) hrt
                      obtain ⟨hd, hhd⟩ : ∃ hd, hd = head (cut s P) 1 := ⟨_, rfl⟩
                      have hsl := slice_at s P (P + 1) (by omega) (by omega)
                      rw [show P + 1 - P = 1 by omega, ← hhd, show ((P + 1 : Nat) : Int) = (P : Int) + 1 by omega] at hsl
                      rw [← hhd] at ht
                      have HTK := Lib.hid ht.2
                      clear hrt ht hhd
                      go_wp2_with ((at_builtin; refine wpList_append_own _ rfl _ _ 52 rfl w.heap.size 89 i0 (.agg #[.int .i64 0, .string ⟨#[]⟩, .int .i64 0, .int .i64 0]) 4 40 Try.underlying52 hi0 hz0 hz1 hz2 rfl (by decide) _ _ _ rfl ((HH.out.own).alloc _) ⟨wr.heap.size, 0, none⟩ 1 1 [.int .i64 3, .string hd, .int .i64 L, .int .i64 C] rfl rfl (row_new _ [.int .i64 3, .string hd, .int .i64 L, .int .i64 C] _ _ rfl) (by simp [Value.oneCell']) (by unfold maxLen; omega) (by omega) (by simp; omega) ?_))
                      intro v' w4 hown4 hgrow4 _
                      have HO4 := Lib.hid hown4
                      have HG4 := Lib.hid hgrow4
                      clear hown4 hgrow4
                      go_wp2
                      have hfin := rs_grow (s := s) (tot := tot) (P := P) (P' := P + 1) (⟨3, bs hd, L, C⟩ : Tk) _ HH.out.bel HH.out.rf HH.out.own HO4.out HG4.out hacc (by omega) (by omega) HTK.out
                      rw [Int.natCast_add] at hfin
                      have HFI := Lib.hid hfin
                      clear hfin
                      first
                        | exact ⟨HFI.out, by simp [intOf]; omega⟩
                        | (go_roundw
                           case rel => exact HFI.out
                           case measure => simp [intOf]; omega)
              · have hrt := HRT.out
                rw [if_pos hqu] at hrt
                clear HRT
                have hcq : c.toNat = 39 ∨ c.toNat = 34 := by simpa [quoteN] using hqu
                obtain ⟨q, hq⟩ : ∃ q, q = rlit c (s.size - P) (bs (cut s (P + 1))) := ⟨_, rfl⟩
                have hql : q.2 ≤ s.size - (P + 1) := by
                  have := rlit_le c (s.size - P) (bs (cut s (P + 1)))
                  rw [← hq, bs_len, cut_size] at this
                  exact this
                rw [← hq] at hrt
                have KI := fun W => rliteral_any s P c W hPs hs HC.out.symm hcq
                rw [← hq] at KI
                have hflt : ∀ t f, rtok (bs (cut s P)) L C = (t, f, 1 + q.2) → plc ((bs s).take (P + 1 + q.2)) 1 1 = (L, C + 1 + q.2) := (fun t f h => by
                  have hfl := rtok_flat (bs (cut s P)) L C
                  rw [h] at hfl
                  have := plc_take s P (1 + q.2) (by omega) hfl 1 1
                  rw [← HH.out.pl, ← Nat.add_assoc] at this
                  rw [this]
                  simp only; congr 1; omega)
                have HFLT := Lib.hid hflt
                have HRT := Lib.hid hrt
                have KI1 := Lib.hid KI
                have hor : ((c.toNat : Int) == 39) = true ∨ (((c.toNat : Int) == 39) = false ∧ ((c.toNat : Int) == 34) = true) := by
                  simp only [beq_iff_eq, beq_eq_false_iff_ne]; omega
                clear hrt KI hq hqu hcq hb3a hflt
                rcases hor with d1 | ⟨d1, d2⟩
                all_goals
                  go_wp2_with fail
                  refine (KI1.out _).mono ?_
                  rintro e w3 ⟨rfl, b3⟩
                  have hw3 := b3.size
                  have own3 := own_below HH.out.own b3
                  have rf3 : RfAt w3 w.heap.size 0 0 0 := (b3.block _ (heap_lt HH.out.rf)).trans HH.out.rf
                  have bel3 := HH.out.bel.trans (b3.mono hwr)
                  obtain ⟨z0, z1, z2, zf⟩ := rf3.facts
                  have OW3 := Lib.hid own3
                  have RF3 := Lib.hid rf3
                  have BL3 := Lib.hid bel3
                  clear own3 rf3 bel3 b3
                  cases hq1 : q.1 with
                  | none =>
                    have hrt := HRT.out
                    rw [hq1] at hrt
                    have hbad := rs_bad HH.out hPs HS35.out HSB.out _ _ _ (by simp) hrt
                    have hpl := HFLT.out _ _ hrt
                    have KF := fun W => fault_any s (P + 1 + q.2) 2 W (by omega) hs
                    rw [hpl] at KF
                    have KF1 := Lib.hid KF
                    have HBD := Lib.hid hbad
                    clear hrt hbad hpl KF
                    go_wp2_with fail
                    refine (KF1.out _).mono ?_
                    rintro e w4 ⟨rfl, b4⟩
                    simp only [fltV]
                    have rf4 : RfAt w4 w.heap.size 0 0 0 := (b4.block _ (heap_lt RF3.out)).trans RF3.out
                    have BL4 := Lib.hid (BL3.out.trans (b4.mono BL3.out.size))
                    obtain ⟨y0, y1, y2, yf⟩ := rf4.facts
                    have RF4 := Lib.hid rf4
                    clear rf4 b4
                    go_wp2
                    exact rs_fault HBD.out RF4.out BL4.out _ rfl rfl
                  | some tt =>
                    simp only [Option.getD_some, Option.isSome_some]
                    have hrt := HRT.out
                    rw [hq1] at hrt
                    by_cases h0 : tt = []
                    · simp only [if_pos h0] at hrt
                      have hbad := Lib.hid (rs_bad HH.out hPs HS35.out HSB.out _ _ _ (by simp) hrt)
                      subst h0
                      rw [show mk [] = (⟨#[]⟩ : ByteArray) from rfl]
                      clear hrt
                      go_wp2
                      exact rs_fault hbad.out RF3.out BL3.out _ rfl rfl
                    · simp only [if_neg h0] at hrt
                      obtain ⟨tx, htx⟩ : ∃ tx, tx = mk tt := ⟨_, rfl⟩
                      have hts : tx.size = tt.length := by rw [htx]; rfl
                      have htl : 0 < tt.length := by
                        rcases Nat.eq_zero_or_pos tt.length with h | h
                        · exact absurd (List.eq_nil_of_length_eq_zero h) h0
                        · exact h
                      have he := nempty (s := tx) (by omega)
                      rw [← htx]
                      by_cases h16 : 16 < tt.length
                      · rw [if_pos h16] at hrt
                        have hbad := Lib.hid (rs_bad HH.out hPs HS35.out HSB.out _ _ _ (by simp) hrt)
                        have hI : (16 : Int) < tx.size := by omega
                        clear hrt htx hts h0
                        go_wp2
                        exact rs_fault hbad.out RF3.out BL3.out _ rfl rfl
                      · rw [if_neg h16] at hrt
                        have hI : (tx.size : Int) ≤ 16 := by omega
                        have ht := rs_tok HH.out hPs HS35.out HSB.out _ (1 + q.2) (by simp) hrt
                        rw [← Nat.add_assoc] at ht
                        have HTK := Lib.hid ht.2
                        have HTX := Lib.hid htx
                        clear hrt htx hts h0 ht
                        go_wp2_with ((at_builtin; refine wpList_append_own _ rfl _ _ 52 rfl w.heap.size 89 i0 (.agg #[.int .i64 0, .string ⟨#[]⟩, .int .i64 0, .int .i64 0]) 4 40 Try.underlying52 hi0 hz0 hz1 hz2 rfl (by decide) _ _ _ rfl ((OW3.out).alloc _) ⟨w3.heap.size, 0, none⟩ 1 1 [.int .i64 2, .string tx, .int .i64 L, .int .i64 C] rfl rfl (row_new _ [.int .i64 2, .string tx, .int .i64 L, .int .i64 C] _ _ rfl) (by simp [Value.oneCell']) (by unfold maxLen; omega) (by omega) (by simp; omega) ?_))
                        intro v' w4 hown4 hgrow4 _
                        have HO4 := Lib.hid hown4
                        have HG4 := Lib.hid hgrow4
                        clear hown4 hgrow4
                        go_wp2
                        have hfin := rs_grow (s := s) (tot := tot) (P := P) (P' := P + 1 + q.2) (⟨2, tt, L, C⟩ : Tk) _ BL3.out RF3.out OW3.out (by rw [← HTX.out]; exact HO4.out) HG4.out hacc (by omega) (by omega) HTK.out
                        have HFI := Lib.hid hfin
                        clear hfin
                        first
                          | exact ⟨HFI.out, by simp [intOf]; omega⟩
                          | (go_roundw
                             case rel => exact HFI.out
                             case measure => simp [intOf]; omega)
            · have hrt := HRT.out
              rw [if_pos hlet] at hrt
              clear HRT
              have HRT := Lib.hid hrt
              clear hrt
              go_wp2
              go_loop [5] (fun p => ∃ Q : Nat, P ≤ Q ∧ Q ≤ s.size ∧ p = .int .i64 Q ∧ NmAt s P Q) (fun p => s.size - (intOf p).toNat)
              case atStart => exact ⟨P, by omega, by omega, rfl, fun j _ h1 h2 => absurd h2 (by omega)⟩
              case round =>
                obtain ⟨Q, hPQ, hQ, rfl, hnm⟩ := hrel
                have HNM := Lib.hid hnm
                clear hnm
                by_cases hQs : Q < s.size
                · have K2 := Lib.hid (fun W => rrest_any s[Q].toNat W)
                  clear hx
                  cases hn : nameN s[Q].toNat
                  · have hstop : ∀ h : Q < s.size, nameN s[Q].toNat = false := fun _ => hn
                    have HN := Lib.hid hn
                    clear hn
                    go_wp2_with fail
                    refine (K2.out _).mono ?_
                    rintro e w3 ⟨rfl, rfl⟩
                    rw [HN.out]
                    have hnz : nsz (bs (cut s P)) = Q - P := by
                      have h2 : 0 < (cut s P).size := by rw [cut_size]; omega
                      rw [nsz_cons (cut s P) h2, cut_get s P hPs h2, ← HC.out, if_pos hlet]
                      exact run_cut s P Q hPQ hQ HNM.out hstop
                    have hPQ2 : P < Q := by
                      rcases Nat.lt_or_ge P Q with h | h
                      · exact h
                      · exfalso
                        obtain rfl : P = Q := by omega
                        have := hstop hPs
                        rw [← HC.out, letter_name hlet] at this
                        cases this
                    have hrt := HRT.out
                    rw [hnz] at hrt
                    clear hnz hstop
                    by_cases h32 : 32 < Q - P
                    · rw [if_pos h32] at hrt
                      have hbad := Lib.hid (rs_bad HH.out hPs HS35.out HSB.out _ _ _ (by simp) hrt)
                      obtain ⟨z0, z1, z2, zf⟩ := HH.out.rf.facts
                      have hI : (32 : Int) < (Q : Int) - P := by omega
                      clear hrt
                      go_wp2
                      exact rs_fault hbad.out HH.out.rf HH.out.bel _ rfl rfl
                    · rw [if_neg h32] at hrt
                      have hI : (Q : Int) - P ≤ 32 := by omega
                      have ht := rs_tok HH.out hPs HS35.out HSB.out _ (Q - P) (by simp) hrt
                      obtain ⟨hd, hhd⟩ : ∃ hd, hd = head (cut s P) (Q - P) := ⟨_, rfl⟩
                      have hsl := slice_at s P Q hPQ hQ
                      rw [← hhd] at hsl
                      rw [← hhd, show P + (Q - P) = Q by omega] at ht
                      have HTK := Lib.hid ht.2
                      clear hrt ht hhd
                      go_wp2_with ((at_builtin; refine wpList_append_own _ rfl _ _ 52 rfl w.heap.size 89 i0 (.agg #[.int .i64 0, .string ⟨#[]⟩, .int .i64 0, .int .i64 0]) 4 40 Try.underlying52 hi0 hz0 hz1 hz2 rfl (by decide) _ _ _ rfl ((HH.out.own).alloc _) ⟨wr.heap.size, 0, none⟩ 1 1 [.int .i64 1, .string hd, .int .i64 L, .int .i64 C] rfl rfl (row_new _ [.int .i64 1, .string hd, .int .i64 L, .int .i64 C] _ _ rfl) (by simp [Value.oneCell']) (by unfold maxLen; omega) (by omega) (by simp; omega) ?_))
                      intro v' w4 hown4 hgrow4 _
                      have HO4 := Lib.hid hown4
                      have HG4 := Lib.hid hgrow4
                      clear hown4 hgrow4
                      go_wp2
                      have hfin := rs_grow (s := s) (tot := tot) (P := P) (P' := Q) (⟨1, bs hd, L, C⟩ : Tk) _ HH.out.bel HH.out.rf HH.out.own HO4.out HG4.out hacc hPQ2 hQ HTK.out
                      have HFI := Lib.hid hfin
                      clear hfin
                      first
                        | exact ⟨HFI.out, by simp [intOf]; omega⟩
                        | (go_roundw
                           case rel => exact HFI.out
                           case measure => simp [intOf]; omega)
                  · have HN := Lib.hid hn
                    clear hn
                    go_wp2_with fail
                    refine (K2.out _).mono ?_
                    rintro e w3 ⟨rfl, rfl⟩
                    rw [HN.out]
                    go_wp2
                    go_round
                    case rel =>
                      refine ⟨Q + 1, by omega, by omega, by go_num, ?_⟩
                      intro j hj h1 h2
                      by_cases e : j = Q
                      · subst e; exact HN.out
                      · exact HNM.out j hj h1 (by omega)
                    case measure => simp [intOf]; omega
                · have hstop : ∀ h : Q < s.size, nameN s[Q].toNat = false := fun h => absurd h hQs
                  clear hx
                  have hnz : nsz (bs (cut s P)) = Q - P := by
                    have h2 : 0 < (cut s P).size := by rw [cut_size]; omega
                    rw [nsz_cons (cut s P) h2, cut_get s P hPs h2, ← HC.out, if_pos hlet]
                    exact run_cut s P Q hPQ hQ HNM.out hstop
                  have hPQ2 : P < Q := by
                    rcases Nat.lt_or_ge P Q with h | h
                    · exact h
                    · exfalso
                      obtain rfl : P = Q := by omega
                      have := hstop hPs
                      rw [← HC.out, letter_name hlet] at this
                      cases this
                  have hrt := HRT.out
                  rw [hnz] at hrt
                  clear hnz hstop
                  by_cases h32 : 32 < Q - P
                  · rw [if_pos h32] at hrt
                    have hbad := Lib.hid (rs_bad HH.out hPs HS35.out HSB.out _ _ _ (by simp) hrt)
                    obtain ⟨z0, z1, z2, zf⟩ := HH.out.rf.facts
                    have hI : (32 : Int) < (Q : Int) - P := by omega
                    clear hrt
                    go_wp2
                    exact rs_fault hbad.out HH.out.rf HH.out.bel _ rfl rfl
                  · rw [if_neg h32] at hrt
                    have hI : (Q : Int) - P ≤ 32 := by omega
                    have ht := rs_tok HH.out hPs HS35.out HSB.out _ (Q - P) (by simp) hrt
                    obtain ⟨hd, hhd⟩ : ∃ hd, hd = head (cut s P) (Q - P) := ⟨_, rfl⟩
                    have hsl := slice_at s P Q hPQ hQ
                    rw [← hhd] at hsl
                    rw [← hhd, show P + (Q - P) = Q by omega] at ht
                    have HTK := Lib.hid ht.2
                    clear hrt ht hhd
                    go_wp2_with ((at_builtin; refine wpList_append_own _ rfl _ _ 52 rfl w.heap.size 89 i0 (.agg #[.int .i64 0, .string ⟨#[]⟩, .int .i64 0, .int .i64 0]) 4 40 Try.underlying52 hi0 hz0 hz1 hz2 rfl (by decide) _ _ _ rfl ((HH.out.own).alloc _) ⟨wr.heap.size, 0, none⟩ 1 1 [.int .i64 1, .string hd, .int .i64 L, .int .i64 C] rfl rfl (row_new _ [.int .i64 1, .string hd, .int .i64 L, .int .i64 C] _ _ rfl) (by simp [Value.oneCell']) (by unfold maxLen; omega) (by omega) (by simp; omega) ?_))
                    intro v' w4 hown4 hgrow4 _
                    have HO4 := Lib.hid hown4
                    have HG4 := Lib.hid hgrow4
                    clear hown4 hgrow4
                    go_wp2
                    have hfin := rs_grow (s := s) (tot := tot) (P := P) (P' := Q) (⟨1, bs hd, L, C⟩ : Tk) _ HH.out.bel HH.out.rf HH.out.own HO4.out HG4.out hacc hPQ2 hQ HTK.out
                    have HFI := Lib.hid hfin
                    clear hfin
                    first
                      | exact ⟨HFI.out, by simp [intOf]; omega⟩
                      | (go_roundw
                         case rel => exact HFI.out
                         case measure => simp [intOf]; omega)
        · have hor : ((c.toNat : Int) == 32) = true ∨ (((c.toNat : Int) == 32) = false ∧ ((c.toNat : Int) == 9) = true) ∨ (((c.toNat : Int) == 32) = false ∧ ((c.toNat : Int) == 9) = false ∧ ((c.toNat : Int) == 10) = true) ∨ (((c.toNat : Int) == 32) = false ∧ ((c.toNat : Int) == 9) = false ∧ ((c.toNat : Int) == 10) = false ∧ ((c.toNat : Int) == 13) = true) := by
            simp only [beq_iff_eq, beq_eq_false_iff_ne]
            simp [blankN] at hbl
            omega
          have hfin := rs_blank HH.out hPs (by rw [← HC.out]; exact hbl)
          rw [Int.natCast_add] at hfin
          have HFI := Lib.hid hfin
          clear hbl hfin
          rcases hor with b1 | ⟨b1, b2⟩ | ⟨b1, b2, b3⟩ | ⟨b1, b2, b3, b4⟩
          all_goals
            go_wp2
            first
              | exact ⟨HFI.out, by simp [intOf]; omega⟩
              | (go_roundw
                 case rel => exact HFI.out
                 case measure => simp [intOf]; omega)
      · obtain rfl : P = s.size := by omega
        rw [cut_nil, scan_end, List.take_of_length_le (by rw [bs_len]; omega)] at hrl
        rw [List.take_of_length_le (by rw [bs_len]; omega)] at hbd
        have KP := fun W => place_any s s.size W (by omega) hs
        rw [List.take_of_length_le (by rw [bs_len]; omega)] at KP
        obtain ⟨⟨L, C⟩, hLC⟩ : ∃ x, x = plc (bs s) 1 1 := ⟨_, rfl⟩
        rw [← hLC] at hrl hbd KP
        simp only at hrl
        have hfin : tot = (acc ++ [⟨4, [], L, C⟩], (0, 0, 0)) := by rw [hrl, pre, if_pos rfl]
        have KP1 := Lib.hid KP
        have HFI := Lib.hid hfin
        have HO := Lib.hid hown
        have HF := Lib.hid hf
        have HB := Lib.hid hbel
        clear KP hfin hown hf hbel hrl hLC
        go_wp2_with fail
        refine (KP1.out _).mono ?_
        rintro e w1 ⟨rfl, rfl⟩
        simp only
        go_wp2_with ((at_builtin; refine wpList_append_own _ rfl _ _ 52 rfl w.heap.size 89 i0 (.agg #[.int .i64 0, .string ⟨#[]⟩, .int .i64 0, .int .i64 0]) 4 40 Try.underlying52 hi0 hz0 hz1 hz2 rfl (by decide) _ _ _ rfl ((HO.out).alloc _) ⟨wr.heap.size, 0, none⟩ 1 1 [.int .i64 4, .string ⟨#[]⟩, .int .i64 L, .int .i64 C] rfl rfl (row_new _ [.int .i64 4, .string ⟨#[]⟩, .int .i64 L, .int .i64 C] _ _ rfl) (by simp [Value.oneCell']) (by unfold maxLen; omega) (by omega) (by simp; omega) ?_))
        intro v' w4 hown4 hgrow4 _
        have HO4 := Lib.hid hown4
        have HG4 := Lib.hid hgrow4
        clear hown4 hgrow4
        have hend := rs_end (t := ⟨4, [], L, C⟩) HB.out HF.out HO.out HO4.out HG4.out
        obtain ⟨A', cap', rfl⟩ := slice_of HO4.out
        obtain ⟨z0, z1, z2, zf⟩ := hend.1.facts
        have HE := Lib.hid hend
        clear hend
        go_wp2
        exact rs_done HFI.out HE.out.1 HE.out.2 HO4.out _ rfl rfl

end Go.Proofs.Ytppdemdjlhdfcaa.Lx
