/-
  Layer 26: the walk of SessionOnce.
-/
import Derived.Test.YtgbpofgmomglfaaDoorSeE
namespace Go.Proofs.YtgbpofgmomglfaaDoor.Se
open Go.RowKit
open Ms (Msg goodM putM put_good bodyM)
set_option maxRecDepth 100000
set_option linter.unusedSimpArgs false
set_option linter.unusedVariables false
/-- The remainder by three, from 0 on. -/
theorem three (q : Int) : 0 ≤ (q.tmod 3 + 3).tmod 3 ∧ (q.tmod 3 + 3).tmod 3 < 3 ∧ -3 < q.tmod 3 ∧ q.tmod 3 < 3 := by
  have h1 : q.tmod 3 < 3 := Int.tmod_lt_of_pos q (by decide)
  have h2 : -3 < q.tmod 3 := by
    have := Int.lt_tmod_of_pos q (show (0 : Int) < 3 by decide)
    omega
  refine ⟨Int.tmod_nonneg _ (by omega), Int.tmod_lt_of_pos _ (by decide), h2, h1⟩
def tN : ByteArray := ⟨#[110, 111]⟩
theorem rep_build (x : Nat) (cl nu : Int) (t : ByteArray) (w : World) : (Instr.build 53 #[(0, .int .i64 4), (3, .slice (some ⟨x, 0, none⟩) 5 5), (8, .int .i64 cl), (9, .int .i64 nu), (11, .string t)]).run Tryd.prog w = .ok (.agg #[.int .i64 4, .int .i64 0, .int .i64 0, .slice (some ⟨x, 0, none⟩) 5 5, .int .i64 0, .int .i64 0, .int .i64 0, .int .i64 0, .int .i64 cl, .int .i64 nu, .int .i64 0, .string t, .bool false, .int .i64 0, .string ⟨#[]⟩, .slice none 0 0]) w := by kernel_rfl
theorem make5 (w : World) : (Instr.makeSlice 42 (.int .i64 5) (.int .i64 5)).run Tryd.prog w = .ok (.slice (some ⟨w.heap.size, 0, none⟩) 5 5) (w.alloc (.cells #[.int .i64 0, .int .i64 0, .int .i64 0, .int .i64 0, .int .i64 0] 3)) := by kernel_rfl
set_option maxHeartbeats 64000000 in
theorem once_walk (a0 : ByteArray) (c0 : Int) (w : World) (hst : Crc.Steps w) (h0 : 0 < w.heap.size) :
    Calls Tryd.prog 4 #[.string a0, .int .i64 c0] w fun e w' => e = .returned (.bool true) ∧ Below w.heap.size w w' := by
  have HST := Lib.hid (fun (w' : World) (b : Below w.heap.size w w') => (⟨hst.of b h0, Nat.lt_of_lt_of_le h0 b.size⟩ : Crc.Steps w' ∧ 0 < w'.heap.size))
  clear hst h0
  obtain ⟨t, ht⟩ : ∃ t, t = a0.extract 0 (min a0.size 1000) := ⟨_, rfl⟩
  have HTS := Lib.hid (show t.size ≤ 1000 by rw [ht, ByteArray.size_extract]; omega)
  have HT := Lib.hid ht
  clear ht
  obtain ⟨q3, hq3⟩ : ∃ q, c0.tmod 3 = q := ⟨_, rfl⟩
  obtain ⟨cl, hcl⟩ : ∃ q, (q3 + 3).tmod 3 = q := ⟨_, rfl⟩
  have h3 := three c0
  rw [hq3, hcl] at h3
  obtain ⟨c1, c2, c3, c4⟩ := h3
  go_enter Tryd.func4, Tryd.ntmps4
  go_wp2_with fail
  refine (speaks_any w (HST.out _ (Below.refl _ _)).1 (HST.out _ (Below.refl _ _)).2).mono ?_
  rintro e w1 ⟨rfl, b1⟩
  have hnt := not_run true w1
  have HB1 := Lib.hid b1
  clear b1
  go_upto_region 4 with fail
  rw [show a0.extract 0 (min (a0.size : Int) 1000).toNat = t from by rw [HT.out]; congr 1; omega]
  clear hnt
  go_wp2_with fail
  refine (new_good cl 2 w1 c1 c2 (by omega) (by omega)).mono ?_
  rintro e V ⟨rfl, hv, bv⟩
  obtain ⟨sb, hsb⟩ : ∃ x, x = w1.heap.size := ⟨_, rfl⟩
  rw [← hsb] at hv ⊢
  have HSL := Lib.hid (show w.heap.size ≤ sb by rw [hsb]; exact HB1.out.size)
  have HBV := Lib.hid (HB1.out.trans (bv.mono HB1.out.size))
  have HV := Lib.hid (show SesAt V sb ⟨cl, 2, ((0 : Nat) : Int), 0, ⟨#[]⟩, 0⟩ from hv)
  have HSEP := Lib.hid (fun (W W2 : World) (b : Below w.heap.size w W) (h : Gn.Sep sb W.heap.size W W2) => show Below w.heap.size w W2 from b.trans (h.below HSL.out b.size))
  clear hsb hv bv hq3 hcl c3 c4
  go_wp2_with fail
  go_loopw [6] (fun i wr => ∃ k : Nat, k ≤ 3 ∧ i = .int .i64 ((k + 1 : Nat) : Int) ∧ SesAt wr sb ⟨cl, 2, (k : Int), 0, ⟨#[]⟩, 0⟩ ∧ Below w.heap.size w wr) (fun i _ => 4 - (intOf i).toNat)
  case atStart => exact ⟨0, by omega, rfl, HV.out, HBV.out⟩
  case round =>
    obtain ⟨k, hk, rfl, hses, hbel⟩ := hrel
    have HSE := Lib.hid hses
    have HBL := Lib.hid hbel
    clear hses hbel
    obtain ⟨j, hj⟩ : ∃ j, j = k + 1 := ⟨_, rfl⟩
    rw [← hj]
    have HJ := Lib.hid hj
    by_cases hlt : k < 3
    · have hlti : (j : Int) ≤ 3 := by omega
      have hj1 : 1 ≤ j := by omega
      have hj3 : j ≤ 3 := by omega
      clear hj
      have HK3 := Lib.hid hlt
      obtain ⟨fq, hfq⟩ : ∃ x, x = putM (reqM cl j t) 5 := ⟨_, rfl⟩
      have HFR := Lib.hid (show fq.toList.isEmpty = false by rw [hfq]; exact put_some (req_good cl j t 5 (by omega) c1 c2 (by omega) (by omega) (by have := HTS.out; omega)))
      have HFQ := Lib.hid hfq
      clear hfq hlt hk
      go_wp2_with fail
      refine (ask_any HSE.out t fq (by omega) (by omega) (by omega) (by have := HK3.out; omega) (by have := HTS.out; omega) (by omega) (by omega) (fun W hW => by
        rw [HFQ.out, show (k : Int) + 1 = (j : Int) by rw [HJ.out]; omega]
        exact req_put cl j t 5 W (HST.out _ (HSEP.out _ _ HBL.out hW)).1 (HST.out _ (HSEP.out _ _ HBL.out hW)).2)).mono ?_
      rintro e w2 ⟨x, rfl, -, -, hs2, hp2⟩
      have HS2 := Lib.hid (show SesAt w2 sb ⟨cl, 2, (j : Int), 0, fq, 0⟩ from by rw [show (k : Int) + 1 = (j : Int) by rw [HJ.out]; omega] at hs2; exact hs2)
      have HB2 := Lib.hid (HSEP.out _ _ HBL.out hp2)
      clear hs2 hp2
      go_wp2_with fail
      go_loopw [9] (fun i wr => ∃ n : Nat, n ≤ 5 ∧ i = .int .i64 n ∧ SesAt wr sb ⟨cl, 2, (j : Int), 0, fq, 0⟩ ∧ Below w.heap.size w wr) (fun i _ => 5 - (intOf i).toNat)
      case atStart => exact ⟨0, by omega, rfl, HS2.out, HB2.out⟩
      case round =>
        obtain ⟨n, hn, rfl, hses, hbel⟩ := hrel
        have HSN := Lib.hid hses
        have HBN := Lib.hid hbel
        clear hses hbel
        by_cases hn5 : n < 5
        · have hn4 : (n : Int) ≤ 4 := by omega
          go_wp2_with fail
          go_loopw [10] (fun i wr => ∃ c : Nat, c ≤ 3 ∧ i = .int .i64 c ∧ SesAt wr sb ⟨cl, 2, (j : Int), 0, fq, 0⟩ ∧ Below w.heap.size w wr) (fun i _ => 3 - (intOf i).toNat)
          case atStart => exact ⟨0, by omega, rfl, HSN.out, HBN.out⟩
          case round =>
            obtain ⟨c, hc, rfl, hses, hbel⟩ := hrel
            have HSC := Lib.hid hses
            have HBC := Lib.hid hbel
            clear hses hbel
            by_cases hc3 : c < 3
            · have hc3i : (c : Int) < 3 := by omega
              by_cases hn0 : n = 0
              · have qa : ((n : Int) == (j : Int)) = false := by rw [beq_eq_false_iff_ne]; omega
                have qa2 : (n == j) = false := by rw [beq_eq_false_iff_ne]; omega
                have qb : ((n : Int) == 0) = true := by rw [beq_iff_eq]; omega
                have qb2 : (n == 0) = true := by rw [beq_iff_eq]; omega
                clear hn0
                go_wp2_with fail
                go_roundw
                case rel => exact ⟨c + 1, by omega, by go_num, HSC.out, HBC.out⟩
                case measure => simp [intOf]; omega
              · have qb : ((n : Int) == 0) = false := by rw [beq_eq_false_iff_ne]; omega
                have qb2 : (n == 0) = false := by rw [beq_eq_false_iff_ne]; omega
                by_cases hnj : n = j
                · have qa : ((n : Int) == (j : Int)) = true := by rw [beq_iff_eq]; omega
                  have qa2 : (n == j) = true := by rw [beq_iff_eq]; omega
                  by_cases hcc : (c : Int) = cl
                  · have qc : ((c : Int) == cl) = true := by rw [beq_iff_eq]; exact hcc
                    clear hcc hnj hn0
                    go_wp2_with fail
                    go_roundw
                    case rel => exact ⟨c + 1, by omega, by go_num, HSC.out, HBC.out⟩
                    case measure => simp [intOf]; omega
                  · have qc : ((c : Int) == cl) = false := by rw [beq_eq_false_iff_ne]; exact hcc
                    have HMI := Lib.hid (show (c : Int) ≠ cl ∨ (n : Int) ≠ (j : Int) from .inl hcc)
                    clear hcc hnj
                    obtain ⟨x, hx⟩ : ∃ x, x = wr.heap.size := ⟨_, rfl⟩
                    obtain ⟨W1, hW1⟩ : ∃ W, W = wr.alloc (.cells #[.int .i64 0, .int .i64 0, .int .i64 0, .int .i64 0, .int .i64 0] 3) := ⟨_, rfl⟩
                    have hx1 : W1.heap[x]? = some (.cells #[.int .i64 0, .int .i64 0, .int .i64 0, .int .i64 0, .int .i64 0] 3 (0, 0)) := by rw [hW1, hx]; exact heap_alloc_new _ _
                    have hb1 : Below wr.heap.size wr W1 := by rw [hW1]; exact (Below.refl _ _).alloc (Nat.le_refl _) _
                    have HX1 := Lib.hid hx1
                    have HSC1 := Lib.hid (HSC.out.under hb1)
                    have HBC1 := Lib.hid (HBC.out.trans (hb1.mono HBC.out.size))
                    have HRG := Lib.hid (rep_good c n tN (by omega) (by omega) (by omega) (by omega) (by decide))
                    have hbd := rep_build x c n tN
                    have HW1 := Lib.hid hW1
                    have HXX := Lib.hid hx
                    clear hx1 hb1 hW1 hx
                    have hmk := make5 wr
                    rw [← HXX.out, ← HW1.out] at hmk
                    obtain ⟨fm, hfm⟩ : ∃ f, f = putM (repM c n tN) 5 := ⟨_, rfl⟩
                    have HPU := Lib.hid (rep_put c n tN x W1 HX1.out (HST.out _ HBC1.out).1 (HST.out _ HBC1.out).2)
                    have HGE := Lib.hid (fun (W : World) (b : Below w.heap.size w W) => rep_get c n tN HRG.out W (HST.out _ b).1 (HST.out _ b).2)
                    rw [← hfm] at HPU HGE
                    have HFM := Lib.hid hfm
                    clear hfm
                    go_wp2_with fail
                    refine HPU.out.mono ?_
                    rintro e w5 ⟨rfl, b5⟩
                    have HS5 := Lib.hid (HSC1.out.under b5)
                    have HB5 := Lib.hid (HBC1.out.trans (b5.mono HBC1.out.size))
                    clear b5 hmk hbd
                    go_wp2_with fail
                    refine (recv_miss HS5.out (repM c n tN) fm HFR.out (by omega) (by omega) rfl HMI.out (HGE.out _ HB5.out)).mono ?_
                    rintro e w6 ⟨rfl, hs6, hp6⟩
                    have HS6 := Lib.hid hs6
                    have HB6 := Lib.hid (HSEP.out _ _ HB5.out hp6)
                    clear hs6 hp6
                    go_wp2_with fail
                    go_roundw
                    case rel => exact ⟨c + 1, by omega, by go_num, HS6.out, HB6.out⟩
                    case measure => simp [intOf]; omega
                · have qa : ((n : Int) == (j : Int)) = false := by rw [beq_eq_false_iff_ne]; omega
                  have qa2 : (n == j) = false := by rw [beq_eq_false_iff_ne]; omega
                  have HMI := Lib.hid (show (c : Int) ≠ cl ∨ (n : Int) ≠ (j : Int) from .inr (by omega))
                  clear hnj
                  obtain ⟨x, hx⟩ : ∃ x, x = wr.heap.size := ⟨_, rfl⟩
                  obtain ⟨W1, hW1⟩ : ∃ W, W = wr.alloc (.cells #[.int .i64 0, .int .i64 0, .int .i64 0, .int .i64 0, .int .i64 0] 3) := ⟨_, rfl⟩
                  have hx1 : W1.heap[x]? = some (.cells #[.int .i64 0, .int .i64 0, .int .i64 0, .int .i64 0, .int .i64 0] 3 (0, 0)) := by rw [hW1, hx]; exact heap_alloc_new _ _
                  have hb1 : Below wr.heap.size wr W1 := by rw [hW1]; exact (Below.refl _ _).alloc (Nat.le_refl _) _
                  have HX1 := Lib.hid hx1
                  have HSC1 := Lib.hid (HSC.out.under hb1)
                  have HBC1 := Lib.hid (HBC.out.trans (hb1.mono HBC.out.size))
                  have HRG := Lib.hid (rep_good c n tN (by omega) (by omega) (by omega) (by omega) (by decide))
                  have hbd := rep_build x c n tN
                  have HW1 := Lib.hid hW1
                  have HXX := Lib.hid hx
                  clear hx1 hb1 hW1 hx
                  have hmk := make5 wr
                  rw [← HXX.out, ← HW1.out] at hmk
                  obtain ⟨fm, hfm⟩ : ∃ f, f = putM (repM c n tN) 5 := ⟨_, rfl⟩
                  have HPU := Lib.hid (rep_put c n tN x W1 HX1.out (HST.out _ HBC1.out).1 (HST.out _ HBC1.out).2)
                  have HGE := Lib.hid (fun (W : World) (b : Below w.heap.size w W) => rep_get c n tN HRG.out W (HST.out _ b).1 (HST.out _ b).2)
                  rw [← hfm] at HPU HGE
                  have HFM := Lib.hid hfm
                  clear hfm
                  go_wp2_with fail
                  refine HPU.out.mono ?_
                  rintro e w5 ⟨rfl, b5⟩
                  have HS5 := Lib.hid (HSC1.out.under b5)
                  have HB5 := Lib.hid (HBC1.out.trans (b5.mono HBC1.out.size))
                  clear b5 hmk hbd
                  go_wp2_with fail
                  refine (recv_miss HS5.out (repM c n tN) fm HFR.out (by omega) (by omega) rfl HMI.out (HGE.out _ HB5.out)).mono ?_
                  rintro e w6 ⟨rfl, hs6, hp6⟩
                  have HS6 := Lib.hid hs6
                  have HB6 := Lib.hid (HSEP.out _ _ HB5.out hp6)
                  clear hs6 hp6
                  go_wp2_with fail
                  go_roundw
                  case rel => exact ⟨c + 1, by omega, by go_num, HS6.out, HB6.out⟩
                  case measure => simp [intOf]; omega
            · have hc3i : ¬ (c : Int) < 3 := by omega
              go_wp2_with fail
              go_roundw
              case rel => exact ⟨n + 1, by omega, by go_num, HSC.out, HBC.out⟩
              case measure => simp [intOf]; omega
        · have hn4 : ¬ (n : Int) ≤ 4 := by omega
          obtain ⟨x, hx⟩ : ∃ x, x = wr.heap.size := ⟨_, rfl⟩
          obtain ⟨W1, hW1⟩ : ∃ W, W = wr.alloc (.cells #[.int .i64 0, .int .i64 0, .int .i64 0, .int .i64 0, .int .i64 0] 3) := ⟨_, rfl⟩
          have hx1 : W1.heap[x]? = some (.cells #[.int .i64 0, .int .i64 0, .int .i64 0, .int .i64 0, .int .i64 0] 3 (0, 0)) := by rw [hW1, hx]; exact heap_alloc_new _ _
          have hb1 : Below wr.heap.size wr W1 := by rw [hW1]; exact (Below.refl _ _).alloc (Nat.le_refl _) _
          have HX1 := Lib.hid hx1
          have HSN1 := Lib.hid (HSN.out.under hb1)
          have HBN1 := Lib.hid (HBN.out.trans (hb1.mono HBN.out.size))
          have HRG := Lib.hid (rep_good cl j t c1 c2 (by omega) (by omega) (by have := HTS.out; omega))
          have hbd := rep_build x cl j t
          have hmk := make5 wr
          rw [← hx, ← hW1] at hmk
          obtain ⟨fm, hfm⟩ : ∃ f, f = putM (repM cl j t) 5 := ⟨_, rfl⟩
          have HPU := Lib.hid (rep_put cl j t x W1 HX1.out (HST.out _ HBN1.out).1 (HST.out _ HBN1.out).2)
          have HGE := Lib.hid (fun (W : World) (b : Below w.heap.size w W) => rep_get cl j t HRG.out W (HST.out _ b).1 (HST.out _ b).2)
          rw [← hfm] at HPU HGE
          clear hx1 hb1 hW1 hx hfm
          go_wp2_with fail
          refine HPU.out.mono ?_
          rintro e w5 ⟨rfl, b5⟩
          have HS5 := Lib.hid (HSN1.out.under b5)
          have HB5 := Lib.hid (HBN1.out.trans (b5.mono HBN1.out.size))
          clear b5 hmk hbd
          go_wp2_with fail
          refine (recv_hit HS5.out (repM cl j t) fm HFR.out (by omega) (by omega) rfl rfl rfl (HGE.out _ HB5.out)).mono ?_
          rintro e w6 ⟨rfl, hs6, hp6⟩
          have HS6 := Lib.hid (show SesAt w6 sb ⟨cl, 2, (j : Int), 0, ⟨#[]⟩, 0⟩ from hs6)
          have HB6 := Lib.hid (HSEP.out _ _ HB5.out hp6)
          rw [show (repM cl j t).text = t from rfl]
          clear hs6 hp6
          go_wp2_with fail
          refine (recv_idle HS6.out fm).mono ?_
          rintro e w7 ⟨rfl, rfl⟩
          have hnt := not_run true w6
          have he : ((⟨#[]⟩ : ByteArray).toList.isEmpty) = true := by rw [ByteArray.toList_eq]; rfl
          go_wp2_with fail
          go_roundw
          case rel => exact ⟨k + 1, by have := HK3.out; omega, by rw [HJ.out]; go_num, by rw [← HJ.out]; exact HS6.out, HB6.out⟩
          case measure => have := HK3.out; have := HJ.out; simp [intOf]; omega
    · have hk3 : k = 3 := by omega
      have hlti : ¬ (j : Int) ≤ 3 := by omega
      clear hj
      go_wp2_with fail
      go_ret
      exact ⟨rfl, HBL.out⟩
theorem once_any (w : World) (a0 : ByteArray) (_ : a0.size ≤ maxLen) (c0 : Int) (_ : (Lit.int .i64 c0).wf = true) (hst : Crc.Steps w) (h0 : 0 < w.heap.size) :
    Calls Tryd.prog 4 #[.string a0, .int .i64 c0] w fun e w' => e = .returned (.bool true) ∧ Below w.heap.size w w' := once_walk a0 c0 w hst h0
end Go.Proofs.YtgbpofgmomglfaaDoor.Se
