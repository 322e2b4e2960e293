/-
  The walk of the law's made.
-/
import Derived.Test.YtdknlifpoihnmaaFxPr
namespace Go.Proofs.Ytdknlifpoihnmaa.Fx
open Go.RowKit
set_option maxRecDepth 100000
set_option linter.unusedSimpArgs false
set_option linter.unusedVariables false

theorem pdinfo : (Try.prog.info? 78).map (fun i => (i.zero, i.size, i.bytes)) = some (some (.agg #[.int .i64 0, .slice none 0 0]), 2, 32) := by kernel_rfl
theorem ppinfo : (Try.prog.info? 79).map (fun i => (i.zero, i.size, i.bytes)) = some (some (.agg #[.int .i64 0, .slice none 0 0]), 2, 32) := by kernel_rfl
def nsL (n : Nat) : List ByteArray := (List.range n).map (letter 65)
def tsL (n : Nat) : List ByteArray := (List.range n).map (letter 97)
theorem rem_in (z : Int) (n : Nat) (hn : 1 ≤ n) : ∃ q1 q2, z.tmod (n : Int) = q1 ∧ -(n : Int) < q1 ∧ q1 < n ∧ (q1 + (n : Int)).tmod (n : Int) = q2 ∧ (q1 + (n : Int)) % (n : Int) = q2 ∧ 0 ≤ q2 ∧ q2 < n := by
  have h2 := Int.tmod_lt_of_pos (-z) (show (0 : Int) < n by omega)
  have h3 := Int.tmod_lt_of_pos z (show (0 : Int) < n by omega)
  rw [Int.neg_tmod] at h2
  obtain ⟨q1, e1⟩ : ∃ q1, z.tmod (n : Int) = q1 := ⟨_, rfl⟩
  rw [e1] at h2 h3
  have h4 : 0 ≤ q1 + (n : Int) := by omega
  exact ⟨q1, _, e1, by omega, h3, rfl, (Int.tmod_eq_emod_of_nonneg h4).symm, Int.tmod_nonneg _ h4, Int.tmod_lt_of_pos _ (by omega)⟩
theorem rem_in2 (z : Int) (n t : Nat) (hn : 1 ≤ n) : ∃ q1 q2, z.tmod ((n : Int) + (t : Int)) = q1 ∧ -((n : Int) + t) < q1 ∧ q1 < (n : Int) + t ∧ (q1 + (n : Int) + (t : Int)).tmod ((n : Int) + (t : Int)) = q2 ∧ (q1 + (n : Int) + (t : Int)) % ((n : Int) + (t : Int)) = q2 ∧ 0 ≤ q2 ∧ q2 < (n : Int) + t := by
  have h2 := Int.tmod_lt_of_pos (-z) (show (0 : Int) < (n : Int) + t by omega)
  have h3 := Int.tmod_lt_of_pos z (show (0 : Int) < (n : Int) + t by omega)
  rw [Int.neg_tmod] at h2
  obtain ⟨q1, e1⟩ : ∃ q1, z.tmod ((n : Int) + t) = q1 := ⟨_, rfl⟩
  rw [e1] at h2 h3
  have h4 : 0 ≤ q1 + (n : Int) + t := by omega
  exact ⟨q1, _, e1, by omega, h3, rfl, (Int.tmod_eq_emod_of_nonneg h4).symm, Int.tmod_nonneg _ h4, Int.tmod_lt_of_pos _ (by omega)⟩

set_option maxHeartbeats 8000000 in
theorem made_any (N T St : Int) (left : List Int) (right : List (List Int)) (W : World) (vl vr : Value) (hl : NumsIn W left vl) (hr : RowsIn W right vr) (hlm : left.length ≤ maxLen) (hrm : right.length ≤ maxLen) (hrm2 : ∀ r ∈ right, r.length ≤ maxLen) :
    Calls Try.prog 8 #[.agg #[.int .i64 N, .int .i64 T, .int .i64 St, vl, vr]] W fun e w' => ∃ v u g, e = .returned (.tuple #[v, u]) ∧ Made g ∧ PgAt (fun q => W.heap.size ≤ q) w' g v ∧ PgAt (fun q => W.heap.size ≤ q) w' g u ∧ Below W.heap.size W w' := by
  obtain ⟨A, c, bL, oL, rfl, hl2, hl3⟩ := hl
  obtain ⟨Ar, cr, bR, oR, f, rfl, hr2, hr3⟩ := hr
  obtain ⟨nl, hnl⟩ : ∃ nl, nl = left.length := ⟨_, rfl⟩
  obtain ⟨nr, hnr⟩ : ∃ nr, nr = right.length := ⟨_, rfl⟩
  rw [← hnl] at hl2 hlm ⊢
  rw [← hnr] at hr2 hrm ⊢
  unfold maxLen at hlm hrm
  have HNL := Lib.hid hnl
  have HNR := Lib.hid hnr
  have HL2 := Lib.hid hl2
  have HL3 := Lib.hid hl3
  have HR2 := Lib.hid hr2
  have HR3 := Lib.hid hr3
  have HRM := Lib.hid hrm2
  clear hnl hnr hl2 hl3 hr2 hr3 hrm2
  obtain ⟨n, hn, hn1, hn8⟩ : ∃ n : Nat, bits .and .i64 N 3 + 1 = (n : Int) ∧ 1 ≤ n ∧ n ≤ 8 := ⟨(bits .and .i64 N 3 + 1).toNat, by rw [and3]; omega, by rw [and3]; omega, by rw [and3]; omega⟩
  obtain ⟨t, ht, ht3⟩ : ∃ t : Nat, bits .and .i64 T 3 = (t : Int) ∧ t ≤ 3 := ⟨(bits .and .i64 T 3).toNat, by rw [and3]; omega, by rw [and3]; omega⟩
  have hw2 : IntKind.i64.wrap (1 + bits .and .i64 N 3) = (n : Int) := by
    rw [show 1 + bits .and .i64 N 3 = (n : Int) by omega]
    exact IntWalk.i64_in _ (by omega)
  have hnz : ¬ (n : Int) = 0 := by omega
  obtain ⟨q1, hq1, hq1a, hq1b⟩ : ∃ q1, St.tmod (n : Int) = q1 ∧ -(n : Int) < q1 ∧ q1 < n := ⟨_, rfl, by have h1 := Int.tmod_add_mul_tdiv St (n : Int); have h2 := Int.tmod_lt_of_pos (-St) (show (0 : Int) < n by omega); rw [Int.neg_tmod] at h2; omega, Int.tmod_lt_of_pos St (by omega)⟩
  obtain ⟨st, hst, hst0, hst1⟩ : ∃ st, (q1 + (n : Int)).tmod (n : Int) = st ∧ 0 ≤ st ∧ st < n := ⟨_, rfl, Int.tmod_nonneg _ (by omega), Int.tmod_lt_of_pos _ (by omega)⟩
  go_enter Try.func8, Try.ntmps8
  go_wp2_with fail
  go_quiet (fail)
  go_wp2_with fail
  obtain ⟨B, hB⟩ : ∃ B, B = W.heap.size + 1 + 1 + 1 := ⟨_, rfl⟩
  obtain ⟨i0, hi0, hz0, hz1, hz2⟩ := info_parts sinfo
  obtain ⟨i1, hi1, hy0, hy1, hy2⟩ := info_parts iinfo
  obtain ⟨i2, hi2x, hx0, hx1, hx2⟩ := info_parts pdinfo
  rw [← hB]
  generalize hV : World.alloc _ _ = V0
  have hxb : V0.heap[W.heap.size]? = some (.cells #[.int .i64 N, .int .i64 T, .int .i64 St, .slice A nl c, .slice Ar nr cr] 25 (0, 0)) := by
    rw [← hV]
    exact (heap_alloc_old _ _ (by simp; omega)).trans ((heap_alloc_old _ _ (by simp; omega)).trans ((heap_alloc_old _ _ (by simp)).trans (heap_alloc_new W (.cells #[.int .i64 N, .int .i64 T, .int .i64 St, .slice A nl c, .slice Ar nr cr] 25))))
  have hr2 : V0.heap[W.heap.size + 1]? = some (.cells #[.int .i64 0, .int .i64 0, .slice none 0 0, .slice none 0 0, .slice none 0 0] 31 (0, 0)) := by
    rw [← hV]
    exact (heap_alloc_old _ _ (by first | (simp; done) | (simp; omega))).trans ((heap_alloc_old _ _ (by first | (simp; done) | (simp; omega))).trans (heap_new _ _ _ (by simp)))
  have hr3 : V0.heap[W.heap.size + 1 + 1]? = some (.cells #[.int .i64 0, .int .i64 0, .slice none 0 0, .slice none 0 0, .slice none 0 0] 34 (0, 0)) := by
    rw [← hV]
    exact (heap_alloc_old _ _ (by first | (simp; done) | (simp; omega))).trans (heap_new _ _ _ (by simp))
  have hb0 : Below W.heap.size W V0 := by
    rw [← hV]
    exact (Gn.below_drewN ((((Below.refl _ W).alloc (Nat.le_refl _) _).alloc (by simp) _).alloc (by simp; omega) _) _).alloc (by simp; omega) _
  have hbx : V0.heap[B]? = some (.cells #[.int .i64 st, .int .i64 n, .slice none 0 0, .slice none 0 0, .slice none 0 0] 34 (0, 0)) := by
    have hs : ∀ (X : World) (o : Obj), X.heap.size = B → (X.alloc o).heap[B]? = some o := fun X o h => by rw [← h]; exact heap_alloc_new X o
    rw [← hV]
    exact hs _ _ (by rw [hB]; simp)
  have HBE := Lib.hid hB
  have HXB := Lib.hid hxb
  have HR2B := Lib.hid hr2
  have HR3B := Lib.hid hr3
  have HB0 := Lib.hid hb0
  clear hV hB hxb hb0 hr2 hr3
  have HM := Lib.hid (show MkN V0 B st n (.slice none 0 0) (.slice none 0 0) 0 0 V0 from ⟨hbx, World.ownsRow_nil _ _ _ _, World.ownsRow_nil _ _ _ _, (fun g h => by cases h), Below.refl _ _⟩)
  clear hbx
  go_loopw [7] (fun i wr => ∃ (k : Nat) (va : Value), k ≤ n ∧ i = .int .i64 k ∧ MkN V0 B st n va (.slice none 0 0) k 0 wr) (fun i _ => n - (intOf i).toNat)
  case atStart => exact ⟨0, _, Nat.zero_le _, rfl, HM.out⟩
  case round =>
    obtain ⟨k, va, hk, rfl, hA⟩ := hrel
    have HA := Lib.hid hA
    by_cases hlt : k < n
    · obtain ⟨Aa, ca, rfl⟩ := Gn.slice_of hA.na
      have y2 : wr.cell? ⟨B, 2, none⟩ = some (.slice Aa k ca) := cell_of_row _ _ 2 _ _ (0, 0) hA.box
      have hln := letter_new 65 k (by omega) (65 + (k : Int)) (by omega) wr
      have hw8 : IntKind.u8.wrap (65 + (k : Int)) = 65 + (k : Int) := by
        have : ∀ k : Nat, k < 8 → IntKind.u8.wrap (65 + (k : Int)) = 65 + (k : Int) := by decide
        exact this k (by omega)
      have HBL := Lib.hid (Gn.heap_lt hA.box)
      have HA2 := Lib.hid ((hA.alloc (.cells #[.int .u8 (65 + (k : Int))] 5)).alloc (.cells #[.string (letter 65 k)] 9))
      have hnew := Gn.row_new (wr.alloc (.cells #[.int .u8 (65 + (k : Int))] 5)) [.string (letter 65 k)] 9 (wr.heap.size + 1) (by simp)
      have HNEW := Lib.hid hnew
      clear hA hnew
      go_wp2_with (at_builtin; refine wpList_append_lies _ rfl _ _ 28 rfl (B + 1) 9 i0 _ 1 16 Try.underlying28 hi0 hz0 hz1 hz2 rfl (by decide) (.slice Aa k ca) k _ rfl HA2.out.na ⟨wr.heap.size + 1, 0, none⟩ 1 1 [.string (letter 65 k)] rfl rfl HNEW.out (by simp [Value.oneCell']) (by decide) (by unfold maxLen; omega) (by omega) (by have := HBL.out; simp; omega) _ rfl ?_; intro gq cap' w4 hown4 hgrow4 hat4 hlt4; have H4 := Lib.hid (HA2.out.name hown4 hgrow4 (fun g hg => by injection hg with hg; subst hg; exact hat4)); have hb4 := (hgrow4.block B (by have := HBL.out; simp; omega) (fun e => by have := (own_base HA2.out.na e.symm).1; omega)).trans HA2.out.box; have y4 := cell_of_row _ _ 2 _ _ (0, 0) hb4; have yf : w4.frozen? ⟨B, 2, none⟩ = false := by simp [World.frozen?, hb4])
      clear hb4
      go_roundw
      case rel => exact ⟨k + 1, _, by omega, by simp, H4.out⟩
      case measure => simp [intOf]; omega
    · obtain rfl : n = k := by omega
      clear hA
      obtain ⟨wo, rfl⟩ : ∃ wo : World, wo = wr := ⟨_, rfl⟩
      go_wp2_with fail
      go_loopw [8] (fun i wr => ∃ (k : Nat) (vb : Value), k ≤ t ∧ i = .int .i64 k ∧ MkN V0 B st n va vb n k wr) (fun i _ => t - (intOf i).toNat)
      case atStart => exact ⟨0, _, Nat.zero_le _, rfl, HA.out⟩
      case round =>
        obtain ⟨k2, vb, hk, rfl, hA⟩ := hrel
        have HA2 := Lib.hid hA
        by_cases hlt : k2 < t
        · obtain ⟨Aa, ca, rfl⟩ := Gn.slice_of hA.nb
          have y2 : wr.cell? ⟨B, 3, none⟩ = some (.slice Aa k2 ca) := cell_of_row _ _ 3 _ _ (0, 0) hA.box
          have hln := letter_new 97 k2 (by omega) (97 + (k2 : Int)) (by omega) wr
          have hw8 : IntKind.u8.wrap (97 + (k2 : Int)) = 97 + (k2 : Int) := by
            have : ∀ k : Nat, k < 8 → IntKind.u8.wrap (97 + (k : Int)) = 97 + (k : Int) := by decide
            exact this k2 (by omega)
          have HBL := Lib.hid (Gn.heap_lt hA.box)
          have HA3 := Lib.hid ((hA.alloc (.cells #[.int .u8 (97 + (k2 : Int))] 5)).alloc (.cells #[.string (letter 97 k2)] 9))
          have hnew := Gn.row_new (wr.alloc (.cells #[.int .u8 (97 + (k2 : Int))] 5)) [.string (letter 97 k2)] 9 (wr.heap.size + 1) (by simp)
          have HNEW := Lib.hid hnew
          clear hA hnew
          go_wp2_with (at_builtin; refine wpList_append_lies _ rfl _ _ 28 rfl (B + 1) 9 i0 _ 1 16 Try.underlying28 hi0 hz0 hz1 hz2 rfl (by decide) (.slice Aa k2 ca) k2 _ rfl HA3.out.nb ⟨wr.heap.size + 1, 0, none⟩ 1 1 [.string (letter 97 k2)] rfl rfl HNEW.out (by simp [Value.oneCell']) (by decide) (by unfold maxLen; omega) (by omega) (by have := HBL.out; simp; omega) _ rfl ?_; intro gq cap' w4 hown4 hgrow4 hat4 hlt4; have H4 := Lib.hid (HA3.out.term hown4 hgrow4 (fun g hg => by injection hg with hg; subst hg; exact hat4)); have hb4 := (hgrow4.block B (by have := HBL.out; simp; omega) (fun e => by have := (own_base HA3.out.nb e.symm).1; omega)).trans HA3.out.box; have y4 := cell_of_row _ _ 3 _ _ (0, 0) hb4; have yf : w4.frozen? ⟨B, 3, none⟩ = false := by simp [World.frozen?, hb4])
          clear hb4
          go_roundw
          case rel => exact ⟨k2 + 1, _, by omega, by simp, H4.out⟩
          case measure => simp [intOf]; omega
        · obtain rfl : t = k2 := by omega
          clear hA
          go_wp2_with fail
          have HP0 := Lib.hid (show MkP 34 78 V0 B B st n va vb (.slice none 0 0) (nsL n) (tsL t) [] [] wr from ⟨by have := HBE.out; omega, HA2.out.box, (StrsAt.of_own (l := nsL n) (by simp [nsL]) HA2.out.na).keep (Nat.le_refl _) (fun r hp _ => ⟨⟨⟨by have := HBE.out; omega, by omega⟩, by simp [Value.ownBlock]⟩, fun _ => rfl⟩), (StrsAt.of_own (l := tsL t) (by simp [tsL]) HA2.out.nb).keep (Nat.le_refl _) (fun r hp _ => ⟨⟨⟨by have := HBE.out; omega, by omega⟩, by simp [Value.ownBlock]⟩, fun _ => rfl⟩), PItems.nil _ _ _ _, HA2.out.below⟩)
          go_loopw [9] (fun i wr => ∃ (k : Nat) (vp : Value) (l : List Prd) (vs : List (Value × Value)), k ≤ n ∧ i = .int .i64 k ∧ MkP 34 78 V0 B B st n va vb vp (nsL n) (tsL t) l vs wr ∧ GoodP n t k l ∧ l.length ≤ 14 * k) (fun i _ => n - (intOf i).toNat)
          case atStart => exact ⟨0, _, [], [], Nat.zero_le _, rfl, HP0.out, GoodP.nil _ _ _, by simp⟩
          case round =>
            obtain ⟨k, vp, l, vs, hk, rfl, hA, hG, hll⟩ := hrel
            have HA3 := Lib.hid hA
            have HG3 := Lib.hid hG
            clear hA hG
            by_cases hlt : k < n
            · go_wp2_with fail
              go_loopw [10] (fun i wr => ∃ (i' : Nat) (vp : Value) (l : List Prd) (vs : List (Value × Value)), i' ≤ 14 ∧ i = .int .i64 i' ∧ MkP 34 78 V0 B B st n va vb vp (nsL n) (tsL t) l vs wr ∧ GoodP n t ((k : Int) + 1) l ∧ l.length ≤ 14 * k + i') (fun i _ => 14 - (intOf i).toNat)
              case atStart => exact ⟨0, _, _, _, Nat.zero_le _, rfl, HA3.out, HG3.out.mono (by omega), by omega⟩
              case round =>
                obtain ⟨i', vp, l, vs, hi', rfl, hA, hG, hll4⟩ := hrel
                obtain ⟨Ap, cp, rfl⟩ := Gn.slice_of hA.prods.2.1
                have HA4 := Lib.hid hA
                have HG4 := Lib.hid hG
                have hx := (hA.below.block W.heap.size (by have := HBE.out; omega)).trans HXB.out
                have x3 := cell_of_row _ _ 3 _ _ (0, 0) hx
                have x4 := cell_of_row _ _ 4 _ _ (0, 0) hx
                have hbw := HB0.out.trans (hA.below.mono (by have := HBE.out; omega))
                have HBW := Lib.hid hbw
                clear hx hA hG hbw
                by_cases c1 : i' < nl
                · by_cases c2 : i' < nr
                  · by_cases c3 : i' < 14
                    · have d1 : (i' : Int) < (nl : Int) := by omega
                      have d2 : (i' : Int) < (nr : Int) := by omega
                      have d3 : (i' : Int) < 14 := by omega
                      obtain ⟨rfl, hbL⟩ := HL2.out (by omega)
                      have y0 := (HBW.out.cell (p := ⟨bL, oL + i', none⟩) hbL).trans (HL3.out i' (by rw [← HNL.out]; exact c1))
                      obtain ⟨z, hz⟩ : ∃ z, z = left[i']'(by rw [← HNL.out]; exact c1) := ⟨_, rfl⟩
                      rw [← hz] at y0
                      obtain ⟨rfl, hbR⟩ := HR2.out (by omega)
                      have hrow := HR3.out i' (by rw [← HNR.out]; exact c2)
                      have z0 := (HBW.out.cell (p := ⟨bR, oR + i', none⟩) hbR).trans hrow.1
                      have hri := hrow.2.under (HBW.out.mono (Nat.le_refl _))
                      have hrmi := HRM.out _ (List.getElem_mem (show i' < right.length by rw [← HNR.out]; exact c2))
                      obtain ⟨ri, hri'⟩ : ∃ ri, ri = right[i']'(by rw [← HNR.out]; exact c2) := ⟨_, rfl⟩
                      rw [← hri'] at hri hrmi
                      obtain ⟨Ai, ci, bi, oi, hfi, hi2, hi3⟩ := hri
                      obtain ⟨li, hli⟩ : ∃ li, li = ri.length := ⟨_, rfl⟩
                      rw [← hli] at hfi hi2 hrmi
                      unfold maxLen at hrmi
                      rw [hfi] at z0
                      have HI2 := Lib.hid hi2
                      have HI3 := Lib.hid hi3
                      have HLI := Lib.hid hli
                      have HX4 := Lib.hid x4
                      have HZ0 := Lib.hid z0
                      obtain ⟨q1, q2, hq1, hq1a, hq1b, hq2, hq2', hq2a, hq2b⟩ := rem_in z n (by omega)
                      clear hz hrow hri' hfi hi2 hi3 hli
                      by_cases ce : q2 = (k : Int)
                      · have hpk : ((k : Int) == (k : Int)) = true := by simp
                        rw [ce] at hq2 hq2'
                        clear ce hq2a hq2b
                        obtain ⟨wb, rfl⟩ : ∃ wb : World, wb = wr := ⟨_, rfl⟩
                        go_wp2_with fail
                        clear hq1 hq1a hq1b hq2 hq2'
                        go_loopw [11, 12] (fun r kk w5 => ∃ (j : Nat) (rs : List Int), j ≤ 4 ∧ kk = .int .i64 j ∧ Hid (rs.length = j) ∧ Hid (∀ s ∈ rs, -(t : Int) ≤ s ∧ s < n) ∧ w5.ownsRow wb.heap.size 3 1 r j (rs.map (Value.int .i64)) ∧ Below wb.heap.size wb w5) (fun _ kk _ => 4 - (intOf kk).toNat)
                        case atStart => exact ⟨0, [], Nat.zero_le _, rfl, Lib.hid rfl, Lib.hid (by simp), World.ownsRow_nil _ _ _ _, Below.refl _ _⟩
                        case round =>
                          obtain ⟨j, rs, hj, rfl, HJL, HJR, hown, hb5⟩ := hrel
                          obtain ⟨Au, cu, rfl⟩ := Gn.slice_of hown
                          have HO5 := Lib.hid hown
                          have HB5 := Lib.hid hb5
                          have HBL := Lib.hid (Gn.heap_lt HA4.out.box)
                          have hx4 := (hb5.cell (p := ⟨W.heap.size, 4, none⟩) (by have := HBE.out; have := HBL.out; show W.heap.size < _; omega)).trans HX4.out
                          have hz0 := (hb5.cell (p := ⟨bR, oR + i', none⟩) (Nat.lt_of_lt_of_le hbR HBW.out.size)).trans HZ0.out
                          clear hown hb5 x3 x4 y0 z0
                          by_cases d : j < li
                          · have e1 : (j : Int) < (li : Int) := by omega
                            by_cases d6 : j < 4
                            · have e2 : (j : Int) < 4 := by omega
                              obtain ⟨rfl, hbI⟩ := HI2.out (by omega)
                              have u0 := (HB5.out.cell (p := ⟨bi, oi + j, none⟩) hbI).trans (HI3.out j (by rw [← HLI.out]; exact d))
                              obtain ⟨z2, hz2'⟩ : ∃ z2, z2 = ri[j]'(by rw [← HLI.out]; exact d) := ⟨_, rfl⟩
                              rw [← hz2'] at u0
                              obtain ⟨q3, q4, hq3, hq3a, hq3b, hq4, hq4', hq4a, hq4b⟩ := rem_in2 z2 n t (by omega)
                              clear hz2'
                              have HS5 := Lib.hid (show wr.ownsRow wb.heap.size 3 1 (.slice Au j cu) j (rs.map (Value.int .i64)) from HO5.out)
                              have hsz5 := HB5.out.size
                              go_wp2_with (at_builtin; refine wpList_append_lies _ rfl _ _ 22 rfl wb.heap.size 3 i1 _ 1 8 Try.underlying22 hi1 hy0 hy1 hy2 rfl (by decide) (.slice Au j cu) j _ rfl (HS5.out.alloc _) ⟨wr.heap.size, 0, none⟩ 1 1 [.int .i64 (q4 - t)] rfl rfl (Gn.row_new _ [.int .i64 (q4 - t)] _ _ rfl) (by simp [Value.oneCell']) (by decide) (by unfold maxLen; omega) (by omega) (by simp; omega) _ rfl ?_; intro gq cap' w4 hown4 hgrow4 hat4 hlt4; have HO4 := Lib.hid (show w4.ownsRow wb.heap.size 3 1 (.slice (some ⟨gq, 0, none⟩) (j + 1) cap') (j + 1) ((rs ++ [q4 - t]).map (Value.int .i64)) by rw [List.map_append]; exact hown4); have HB4 := Lib.hid ((HB5.out.alloc HB5.out.size _).grown hgrow4 (by have := HB5.out.size; simp; omega) (fun j hj => Gn.own_block HO5.out j hj)); clear hown4 hgrow4 hat4 hlt4)
                              go_roundw
                              case rel => exact ⟨j + 1, rs ++ [q4 - t], by omega, by simp, Lib.hid (by rw [List.length_append, HJL.out]; rfl), Lib.hid (fun s hs => by
                                rcases List.mem_append.1 hs with h7 | h7
                                · exact HJR.out s h7
                                · have := List.mem_singleton.1 h7; omega), HO4.out, HB4.out⟩
                              case measure => simp [intOf]; omega
                            · have e2 : ¬ (j : Int) < 4 := by omega
                              have HI := Lib.hid ((IntsAt.of_own2 HJL.out HO5.out).keep (Q := fun r => (B ≤ r ∧ r ≠ B) ∧ (Value.slice Ap l.length cp).ownBlock ≠ some r) (Nat.le_refl _) (fun r hp _ => ⟨⟨⟨by have := HBE.out; have := HBL.out; omega, by have := HBL.out; omega⟩, fun e => by have := (HA4.out.prods.own_lt r e).1; omega⟩, fun _ => rfl⟩))
                              have hA5 := HA4.out.under HB5.out
                              have HA5 := Lib.hid hA5
                              have HV5 := Lib.hid hA5.prods.2.1
                              have hx5 := hA5.box
                              have hbl5 := Gn.heap_lt hx5
                              have HVL5 := Lib.hid hbl5
                              have w4' := cell_of_row _ _ 4 _ _ (0, 0) hx5
                              have HX5 := Lib.hid hx5
                              clear hA5 hx5 hbl5
                              have HNEW := Lib.hid (Gn.row_new wr [.int .i64 k, .slice Au j cu] 78 wr.heap.size rfl)
                              have HPUT := Lib.hid (fun (w4 : World) (gq cap' : Nat) (hown4 : w4.ownsRow (B + 1) 78 2 (.slice (some ⟨gq, 0, none⟩) (l.length + 1) cap') (l.length + 1) (cells2 vs ++ [.int .i64 k, .slice Au j cu])) (hgrow4 : (wr.alloc (.cells #[.int .i64 k, .slice Au j cu] 78)).grownBy w4 (Value.slice Ap l.length cp).ownBlock) (hat4 : (Value.slice Ap l.length cp).ownBlock = some gq ∨ gq = (wr.alloc (.cells #[.int .i64 k, .slice Au j cu] 78)).heap.size) =>
                                (⟨(HA5.out.under ((Below.refl wr.heap.size wr).alloc (Nat.le_refl _) (.cells #[.int .i64 k, .slice Au j cu] 78))).put ⟨k, rs⟩ (HI.out.under ((Below.refl wr.heap.size wr).alloc (Nat.le_refl _) (.cells #[.int .i64 k, .slice Au j cu] 78))) hown4 hgrow4 (fun g hg => by
                                    have hg : gq = g := by injection hg
                                    subst hg
                                    rcases hat4 with h7 | h7
                                    · exact .inl h7
                                    · exact .inr (by omega)), (hgrow4.block B (by have := HVL5.out; simp; omega) (fun e => by have := (HA5.out.prods.own_lt B e.symm).2; omega)).trans ((heap_alloc_old _ _ HVL5.out).trans HX5.out)⟩ :
                                  MkP 34 78 V0 B B st n va vb (.slice (some ⟨gq, 0, none⟩) (l.length + 1) cap') (nsL n) (tsL t) (l ++ [⟨k, rs⟩]) (vs ++ [(.int .i64 k, .slice Au j cu)]) (w4.setCell ⟨B, 4, none⟩ (.slice (some ⟨gq, 0, none⟩) (l.length + 1) cap')) ∧ w4.heap[B]? = some (.cells #[.int .i64 st, .int .i64 n, va, vb, .slice Ap l.length cp] 34 (0, 0))))
                              go_wp2_with (at_builtin; refine wpList_append_lies _ rfl _ _ 32 rfl (B + 1) 78 i2 _ 2 32 Try.underlying32 hi2x hx0 hx1 hx2 rfl (by decide) (.slice Ap l.length cp) l.length (cells2 vs) rfl (HV5.out.alloc _) ⟨wr.heap.size, 0, none⟩ 1 1 [.int .i64 k, .slice Au j cu] rfl rfl HNEW.out (by simp [Value.oneCell']) (by decide) (by unfold maxLen; omega) (by omega) (by have := HVL5.out; simp; omega) _ rfl ?_; intro gq cap' w4 hown4 hgrow4 hat4 hlt4; have H7 := HPUT.out w4 gq cap' hown4 hgrow4 hat4; have yf := Gn.frozen_row H7.2 4; have y4 : w4.cell? ⟨B, 4, none⟩ = some (.slice Ap l.length cp) := cell_of_row _ _ 4 _ _ (0, 0) H7.2; have H6 := Lib.hid H7.1; clear H7 hown4 hgrow4 hat4 hlt4)
                              go_roundw
                              case rel => exact ⟨i' + 1, _, _, _, by omega, by simp, H6.out, HG4.out.snoc (by rw [HJL.out]; omega) HJR.out, by simp; omega⟩
                              case measure => simp [intOf]; omega
                          · have e1 : ¬ (j : Int) < (li : Int) := by omega
                            have HI := Lib.hid ((IntsAt.of_own2 HJL.out HO5.out).keep (Q := fun r => (B ≤ r ∧ r ≠ B) ∧ (Value.slice Ap l.length cp).ownBlock ≠ some r) (Nat.le_refl _) (fun r hp _ => ⟨⟨⟨by have := HBE.out; have := HBL.out; omega, by have := HBL.out; omega⟩, fun e => by have := (HA4.out.prods.own_lt r e).1; omega⟩, fun _ => rfl⟩))
                            have hA5 := HA4.out.under HB5.out
                            have HA5 := Lib.hid hA5
                            have HV5 := Lib.hid hA5.prods.2.1
                            have hx5 := hA5.box
                            have hbl5 := Gn.heap_lt hx5
                            have HVL5 := Lib.hid hbl5
                            have w4' := cell_of_row _ _ 4 _ _ (0, 0) hx5
                            have HX5 := Lib.hid hx5
                            clear hA5 hx5 hbl5
                            have HNEW := Lib.hid (Gn.row_new wr [.int .i64 k, .slice Au j cu] 78 wr.heap.size rfl)
                            have HPUT := Lib.hid (fun (w4 : World) (gq cap' : Nat) (hown4 : w4.ownsRow (B + 1) 78 2 (.slice (some ⟨gq, 0, none⟩) (l.length + 1) cap') (l.length + 1) (cells2 vs ++ [.int .i64 k, .slice Au j cu])) (hgrow4 : (wr.alloc (.cells #[.int .i64 k, .slice Au j cu] 78)).grownBy w4 (Value.slice Ap l.length cp).ownBlock) (hat4 : (Value.slice Ap l.length cp).ownBlock = some gq ∨ gq = (wr.alloc (.cells #[.int .i64 k, .slice Au j cu] 78)).heap.size) =>
                              (⟨(HA5.out.under ((Below.refl wr.heap.size wr).alloc (Nat.le_refl _) (.cells #[.int .i64 k, .slice Au j cu] 78))).put ⟨k, rs⟩ (HI.out.under ((Below.refl wr.heap.size wr).alloc (Nat.le_refl _) (.cells #[.int .i64 k, .slice Au j cu] 78))) hown4 hgrow4 (fun g hg => by
                                  have hg : gq = g := by injection hg
                                  subst hg
                                  rcases hat4 with h7 | h7
                                  · exact .inl h7
                                  · exact .inr (by omega)), (hgrow4.block B (by have := HVL5.out; simp; omega) (fun e => by have := (HA5.out.prods.own_lt B e.symm).2; omega)).trans ((heap_alloc_old _ _ HVL5.out).trans HX5.out)⟩ :
                                MkP 34 78 V0 B B st n va vb (.slice (some ⟨gq, 0, none⟩) (l.length + 1) cap') (nsL n) (tsL t) (l ++ [⟨k, rs⟩]) (vs ++ [(.int .i64 k, .slice Au j cu)]) (w4.setCell ⟨B, 4, none⟩ (.slice (some ⟨gq, 0, none⟩) (l.length + 1) cap')) ∧ w4.heap[B]? = some (.cells #[.int .i64 st, .int .i64 n, va, vb, .slice Ap l.length cp] 34 (0, 0))))
                            go_wp2_with (at_builtin; refine wpList_append_lies _ rfl _ _ 32 rfl (B + 1) 78 i2 _ 2 32 Try.underlying32 hi2x hx0 hx1 hx2 rfl (by decide) (.slice Ap l.length cp) l.length (cells2 vs) rfl (HV5.out.alloc _) ⟨wr.heap.size, 0, none⟩ 1 1 [.int .i64 k, .slice Au j cu] rfl rfl HNEW.out (by simp [Value.oneCell']) (by decide) (by unfold maxLen; omega) (by omega) (by have := HVL5.out; simp; omega) _ rfl ?_; intro gq cap' w4 hown4 hgrow4 hat4 hlt4; have H7 := HPUT.out w4 gq cap' hown4 hgrow4 hat4; have yf := Gn.frozen_row H7.2 4; have y4 : w4.cell? ⟨B, 4, none⟩ = some (.slice Ap l.length cp) := cell_of_row _ _ 4 _ _ (0, 0) H7.2; have H6 := Lib.hid H7.1; clear H7 hown4 hgrow4 hat4 hlt4)
                            go_roundw
                            case rel => exact ⟨i' + 1, _, _, _, by omega, by simp, H6.out, HG4.out.snoc (by rw [HJL.out]; omega) HJR.out, by simp; omega⟩
                            case measure => simp [intOf]; omega
                      · have hpk : (q2 == (k : Int)) = false := by rw [beq_eq_false_iff_ne]; exact ce
                        go_wp2_with fail
                        go_roundw
                        case rel => exact ⟨i' + 1, _, l, vs, by omega, by simp, HA4.out, HG4.out, by omega⟩
                        case measure => simp [intOf]; omega
                    · have d1 : (i' : Int) < (nl : Int) := by omega
                      have d2 : (i' : Int) < (nr : Int) := by omega
                      have d3 : ¬ (i' : Int) < 14 := by omega
                      go_wp2_with fail
                      go_roundw
                      case rel => exact ⟨k + 1, _, l, vs, by omega, by simp, HA4.out, by have := HG4.out; rwa [show ((k : Int) + 1) = ((k + 1 : Nat) : Int) by omega] at this, by omega⟩
                      case measure => simp [intOf]; omega
                  · have d1 : (i' : Int) < (nl : Int) := by omega
                    have d2 : ¬ (i' : Int) < (nr : Int) := by omega
                    go_wp2_with fail
                    go_roundw
                    case rel => exact ⟨k + 1, _, l, vs, by omega, by simp, HA4.out, by have := HG4.out; rwa [show ((k : Int) + 1) = ((k + 1 : Nat) : Int) by omega] at this, by omega⟩
                    case measure => simp [intOf]; omega
                · have d1 : ¬ (i' : Int) < (nl : Int) := by omega
                  go_wp2_with fail
                  go_roundw
                  case rel => exact ⟨k + 1, _, l, vs, by omega, by simp, HA4.out, by have := HG4.out; rwa [show ((k : Int) + 1) = ((k + 1 : Nat) : Int) by omega] at this, by omega⟩
                  case measure => simp [intOf]; omega
            · obtain rfl : n = k := by omega
              have hbx3 := HA3.out.box
              have HBX3 := Lib.hid hbx3
              have HBL3 := Lib.hid (Gn.heap_lt hbx3)
              have HKW := Lib.hid (fun (w' : World) (e : w'.heap[B]? = wr.heap[B]?) => (⟨cell_of_row _ _ 0 _ _ (0, 0) (e.trans hbx3), cell_of_row _ _ 2 _ _ (0, 0) (e.trans hbx3), cell_of_row _ _ 3 _ _ (0, 0) (e.trans hbx3)⟩ : w'.cell? ⟨B, 0, none⟩ = some (.int .i64 st) ∧ w'.cell? ⟨B, 2, none⟩ = some va ∧ w'.cell? ⟨B, 3, none⟩ = some vb))
              have bx0 : wr.cell? ⟨B, 0, none⟩ = some (.int .i64 st) := cell_of_row _ _ 0 _ _ (0, 0) hbx3
              have bx2 : wr.cell? ⟨B, 2, none⟩ = some va := cell_of_row _ _ 2 _ _ (0, 0) hbx3
              have bx3 : wr.cell? ⟨B, 3, none⟩ = some vb := cell_of_row _ _ 3 _ _ (0, 0) hbx3
              clear hbx3
              go_wp2_with fail
              go_cut [13] from 145 to 156 (fun s13 wx => ∃ (B2 : Nat) (va2 vb2 : Value), s13 = .pointer (some ⟨B2, 0, none⟩) ∧ wr.heap.size ≤ B2 ∧ Below wr.heap.size wr wx ∧ MkP 31 79 wx B B2 st n va2 vb2 (.slice none 0 0) (nsL n) (tsL t) [] [] wx)
              case first =>
                clear hlm hrm HNL HNR HL2 HL3 HR2 HR3 HRM HXB HB0 HR2B HR3B HM HA HA2 HP0 HG3 hn ht hw2 hnz hq1 hq1a hq1b hst hst0 hst1 hll hi0 hz0 hz1 hz2 hi1 hy0 hy1 hy2 hi2x hx0 hx1 hx2
                refine wp_region_noPanic ?_
                refine wp_region_held_drew (S := (fun w' => w'.cell? ⟨B, 0, none⟩ = some (.int .i64 st) ∧ w'.cell? ⟨B, 2, none⟩ = some va ∧ w'.cell? ⟨B, 3, none⟩ = some vb)) (by kernel_rfl) ?_ (fun hHeld => ?_)
                · exact ⟨bx0, bx2, bx3⟩
                refine wpAnyH_take (i := 0) (v := ?_) rfl (by kernel_rfl) (by kernel_rfl) (by kernel_rfl) (fun _ _ _ h => h) (Or.inl ⟨by rfl, ?_⟩) (by assumption) ?_
                rotate_left
                · intro w hSw
                  try dsimp only at hSw
                  go_simp
                  try with_reducible rfl
                try simp only [Act.put, List.setIfInBounds_toArray, List.set_cons_zero, List.set_cons_succ]
                refine wpAnyH_take (i := 1) (v := ?_) rfl (by kernel_rfl) (by kernel_rfl) (by kernel_rfl) (fun _ _ _ h => h) (Or.inl ⟨by rfl, ?_⟩) (by assumption) ?_
                rotate_left
                · intro w hSw
                  try dsimp only at hSw
                  go_simp
                  try with_reducible rfl
                try simp only [Act.put, List.setIfInBounds_toArray, List.set_cons_zero, List.set_cons_succ]
                refine wpAnyH_take (i := 2) (v := ?_) rfl (by kernel_rfl) (by kernel_rfl) (by kernel_rfl) (fun _ _ _ h => h) (Or.inl ⟨by rfl, ?_⟩) (by assumption) ?_
                rotate_left
                · intro w hSw
                  try dsimp only at hSw
                  go_simp
                  try with_reducible rfl
                try simp only [Act.put, List.setIfInBounds_toArray, List.set_cons_zero, List.set_cons_succ]
                refine wpAnyH_take (i := 4) (v := ?_) rfl (by kernel_rfl) (by kernel_rfl) (by kernel_rfl) (fun _ _ _ h => h) (Or.inl ⟨by rfl, ?_⟩) (by assumption) ?_
                rotate_left
                · intro w hSw
                  try dsimp only at hSw
                  go_simp
                  try with_reducible rfl
                try simp only [Act.put, List.setIfInBounds_toArray, List.set_cons_zero, List.set_cons_succ]
                refine wpAnyH_take (i := 5) (v := ?_) rfl (by kernel_rfl) (by kernel_rfl) (by kernel_rfl) (fun _ _ _ h => h) (Or.inl ⟨by rfl, ?_⟩) (by assumption) ?_
                rotate_left
                · intro w hSw
                  try dsimp only at hSw
                  go_simp
                  try with_reducible rfl
                try simp only [Act.put, List.setIfInBounds_toArray, List.set_cons_zero, List.set_cons_succ]
                refine wpAnyH_take (i := 8) (v := ?_) rfl (by kernel_rfl) (by kernel_rfl) (by kernel_rfl) (fun _ _ _ h => h) (Or.inl ⟨by rfl, ?_⟩) (by assumption) ?_
                rotate_left
                · intro w hSw
                  try dsimp only at hSw
                  go_simp
                  try with_reducible rfl
                try simp only [Act.put, List.setIfInBounds_toArray, List.set_cons_zero, List.set_cons_succ]
                refine wpAnyH_take (i := 9) (v := ?_) rfl (by kernel_rfl) (by kernel_rfl) (by kernel_rfl) (fun _ _ _ h => h) (Or.inl ⟨by rfl, ?_⟩) (by assumption) ?_
                rotate_left
                · intro w hSw
                  try dsimp only at hSw
                  go_simp
                  try with_reducible rfl
                try simp only [Act.put, List.setIfInBounds_toArray, List.set_cons_zero, List.set_cons_succ]
                refine wpAnyH_ready (rs := [3, 7, 12]) (by kernel_rfl) (by simp) ?_
                refine AllReadyH.cons rfl (fun K hK => ?_) ?_
                · go_simp
                  refine hK.out _ _ ((HKW.out _ ((heap_alloc_old _ _ (by have := HBL3.out; first | omega | (simp; done) | (simp; omega))).trans (rfl)))) (fun hHeld => ?_)
                  clear hK K
                  try simp only [Act.put, List.setIfInBounds_toArray, List.set_cons_zero, List.set_cons_succ]
                  refine wpAnyH_ready (rs := [6, 7, 12]) (by kernel_rfl) (by simp) ?_
                  refine AllReadyH.cons rfl (fun K hK => ?_) ?_
                  · refine step_append_strs _ (by rfl) (.tmp 148) (.tmp 150) (by rfl) wr.heap.size (.slice (some ⟨wr.heap.size, 0, none⟩) 0 0) 0 [] (by simp [Act.eval]) (own_empty (by exact heap_new _ _ _ (by first | rfl | simp)) (by have := HBL3.out; omega)) _ (nsL n) va (by simp [Act.eval]) (HA3.out.names.under (by exact Gn.below_drew (Below.alloc (Below.refl _ _) (by have := HBL3.out; first | omega | (simp; done) | (simp; omega)) _))) (by simp [nsL]; omega) (by have := HBL3.out; first | omega | (simp; done) | (simp; omega)) ?_
                    intro v4 w4 hown4 hgrow4 hat4
                    rw [show 0 + (nsL n).length = n by simp [nsL]] at hown4
                    obtain ⟨A4, c4, rfl⟩ := Gn.slice_of hown4
                    have hl4 := hgrow4.size
                    try simp at hl4
                    have HL4 := Lib.hid hl4
                    have HO4 := Lib.hid hown4
                    have HG4 := Lib.hid hgrow4
                    have HT4 := Lib.hid hat4
                    clear hown4 hgrow4 hat4 hl4
                    refine hK.out _ _ ((HKW.out _ ((HG4.out.block _ (by have := HBL3.out; first | omega | (simp; done) | (simp; omega)) (fun e => by have e : (B) = (wr.heap.size) := (by injection e); have := HBL3.out; omega)).trans ((heap_alloc_old _ _ (by have := HBL3.out; first | omega | (simp; done) | (simp; omega))).trans (rfl))))) (fun hHeld => ?_)
                    clear hK K
                    try simp only [Act.put, List.setIfInBounds_toArray, List.set_cons_zero, List.set_cons_succ]
                    refine wpAnyH_ready (rs := [7, 12]) (by kernel_rfl) (by simp) ?_
                    refine AllReadyH.cons rfl (fun K hK => ?_) ?_
                    · go_simp
                      refine hK.out _ _ ((HKW.out _ ((heap_alloc_old _ _ (by have := HBL3.out; have := HL4.out; first | omega | (simp; done) | (simp; omega))).trans ((HG4.out.block _ (by have := HBL3.out; first | omega | (simp; done) | (simp; omega)) (fun e => by have e : (B) = (wr.heap.size) := (by injection e); have := HBL3.out; omega)).trans ((heap_alloc_old _ _ (by have := HBL3.out; first | omega | (simp; done) | (simp; omega))).trans (rfl)))))) (fun hHeld => ?_)
                      clear hK K
                      try simp only [Act.put, List.setIfInBounds_toArray, List.set_cons_zero, List.set_cons_succ]
                      refine wpAnyH_ready (rs := [10, 12]) (by kernel_rfl) (by simp) ?_
                      refine AllReadyH.cons rfl (fun K hK => ?_) ?_
                      · refine step_append_strs _ (by rfl) (.tmp 152) (.tmp 154) (by rfl) wr.heap.size (.slice (some ⟨w4.heap.size, 0, none⟩) 0 0) 0 [] (by simp [Act.eval]) (own_empty (by exact heap_new _ _ _ (by first | rfl | simp)) (by have := HBL3.out; have := HL4.out; omega)) _ (tsL t) vb (by simp [Act.eval]) (HA3.out.terms.under (by exact Below.alloc (Below.grown (Gn.below_drew (Below.alloc (Below.refl _ _) (by have := HBL3.out; first | omega | (simp; done) | (simp; omega)) _)) HG4.out (by have := HBL3.out; first | omega | (simp; done) | (simp; omega)) (fun k hk => by have e : (wr.heap.size) = k := (by injection hk); have := HBL3.out; omega)) (by have := HBL3.out; have := HL4.out; first | omega | (simp; done) | (simp; omega)) _)) (by simp [tsL]; omega) (by have := HBL3.out; have := HL4.out; first | omega | (simp; done) | (simp; omega)) ?_
                        intro v5 w5 hown5 hgrow5 hat5
                        rw [show 0 + (tsL t).length = t by simp [tsL]] at hown5
                        obtain ⟨A5, c5, rfl⟩ := Gn.slice_of hown5
                        have hl5 := hgrow5.size
                        try simp at hl5
                        have HL5 := Lib.hid hl5
                        have HO5 := Lib.hid hown5
                        have HG5 := Lib.hid hgrow5
                        have HT5 := Lib.hid hat5
                        clear hown5 hgrow5 hat5 hl5
                        refine hK.out _ _ ((HKW.out _ ((HG5.out.block _ (by have := HBL3.out; have := HL4.out; first | omega | (simp; done) | (simp; omega)) (fun e => by have e : (B) = (w4.heap.size) := (by injection e); have := HBL3.out; have := HL4.out; omega)).trans ((heap_alloc_old _ _ (by have := HBL3.out; have := HL4.out; first | omega | (simp; done) | (simp; omega))).trans ((HG4.out.block _ (by have := HBL3.out; first | omega | (simp; done) | (simp; omega)) (fun e => by have e : (B) = (wr.heap.size) := (by injection e); have := HBL3.out; omega)).trans ((heap_alloc_old _ _ (by have := HBL3.out; first | omega | (simp; done) | (simp; omega))).trans (rfl))))))) (fun hHeld => ?_)
                        clear hK K
                        try simp only [Act.put, List.setIfInBounds_toArray, List.set_cons_zero, List.set_cons_succ]
                        refine wpAnyH_take (i := 11) (v := ?_) rfl (by kernel_rfl) (by kernel_rfl) (by kernel_rfl) (fun _ _ _ h => h) (Or.inl ⟨by rfl, ?_⟩) (by assumption) ?_
                        rotate_left
                        · intro w hSw
                          try dsimp only at hSw
                          go_simp
                          try with_reducible rfl
                        try simp only [Act.put, List.setIfInBounds_toArray, List.set_cons_zero, List.set_cons_succ]
                        refine wpAnyH_ready (rs := [12]) (by kernel_rfl) (by simp) ?_
                        refine AllReadyH.cons rfl (fun K hK => ?_) AllReadyH.nil
                        go_simp
                        refine hK.out _ _ ((HKW.out _ ((heap_alloc_old _ _ (by have := HBL3.out; have := HL4.out; have := HL5.out; first | omega | (simp; done) | (simp; omega))).trans ((HG5.out.block _ (by have := HBL3.out; have := HL4.out; first | omega | (simp; done) | (simp; omega)) (fun e => by have e : (B) = (w4.heap.size) := (by injection e); have := HBL3.out; have := HL4.out; omega)).trans ((heap_alloc_old _ _ (by have := HBL3.out; have := HL4.out; first | omega | (simp; done) | (simp; omega))).trans ((HG4.out.block _ (by have := HBL3.out; first | omega | (simp; done) | (simp; omega)) (fun e => by have e : (B) = (wr.heap.size) := (by injection e); have := HBL3.out; omega)).trans ((heap_alloc_old _ _ (by have := HBL3.out; first | omega | (simp; done) | (simp; omega))).trans (rfl)))))))) (fun hHeld => ?_)
                        clear hK K
                        try simp only [Act.put, List.setIfInBounds_toArray, List.set_cons_zero, List.set_cons_succ]
                        refine wpAnyH_ready (rs := [13]) (by kernel_rfl) (by simp) ?_
                        refine AllReadyH.cons rfl (fun K hK => ?_) AllReadyH.nil
                        refine step_store_box _ (by rfl) 31 (.tmp 13) (.tmp 156) (by rfl) (w5.heap.size) (.int .i64 st) (.int .i64 n) (.slice A4 n c4) (.slice A5 t c5) (.slice none 0 0) _ _ _ _ _ _ (by simp [Act.eval]) (by simp [Act.eval]) (heap_new _ _ _ (by first | rfl | simp)) (by kernel_rfl) (by simp [Value.oneCell']) ?_
                        intro w6 hbx6 hoth6 hbel6 hsz6
                        try simp at hsz6
                        have HB6 := Lib.hid hbx6
                        have HO6 := Lib.hid hoth6
                        have HE6 := Lib.hid hbel6
                        have HS6 := Lib.hid hsz6
                        clear hbx6 hoth6 hbel6 hsz6
                        refine hK.out _ _ ((HKW.out _ ((HO6.out _ (by have := HBL3.out; have := HBL3.out; have := HL4.out; have := HL5.out; omega)).trans ((heap_alloc_old _ _ (by have := HBL3.out; have := HL4.out; have := HL5.out; first | omega | (simp; done) | (simp; omega))).trans ((HG5.out.block _ (by have := HBL3.out; have := HL4.out; first | omega | (simp; done) | (simp; omega)) (fun e => by have e : (B) = (w4.heap.size) := (by injection e); have := HBL3.out; have := HL4.out; omega)).trans ((heap_alloc_old _ _ (by have := HBL3.out; have := HL4.out; first | omega | (simp; done) | (simp; omega))).trans ((HG4.out.block _ (by have := HBL3.out; first | omega | (simp; done) | (simp; omega)) (fun e => by have e : (B) = (wr.heap.size) := (by injection e); have := HBL3.out; omega)).trans ((heap_alloc_old _ _ (by have := HBL3.out; first | omega | (simp; done) | (simp; omega))).trans (rfl))))))))) (fun hHeld => ?_)
                        clear hK K
                        try simp only [Act.put, List.setIfInBounds_toArray, List.set_cons_zero, List.set_cons_succ]
                        refine wpAnyH_done (by kernel_rfl) ?_ _
                        refine NoPanic.normal ?_
                        go_wp2_with fail
                        first
                          | go_meet
                          | (rename_i d1 h1; cases h1; go_meet)
                          | (rename_i d1 h1 dd d2 h2; cases h1; cases h2; go_meet)
                          | (rename_i d1 h1 dd d2 h2 de d3 h3; cases h1; cases h2; cases h3; go_meet)
                        exact ⟨_, _, _, rfl, by have := HBL3.out; have := HL4.out; have := HL5.out;  omega, Below.trans (by exact Below.alloc (Below.grown (Below.alloc (Below.grown (Gn.below_drew (Below.alloc (Below.refl _ _) (by have := HBL3.out; first | omega | (simp; done) | (simp; omega)) _)) HG4.out (by have := HBL3.out; first | omega | (simp; done) | (simp; omega)) (fun k hk => by have e : (wr.heap.size) = k := (by injection hk); have := HBL3.out; omega)) (by have := HBL3.out; have := HL4.out; first | omega | (simp; done) | (simp; omega)) _) HG5.out (by have := HBL3.out; have := HL4.out; first | omega | (simp; done) | (simp; omega)) (fun k hk => by have e : (w4.heap.size) = k := (by injection hk); have := HBL3.out; have := HL4.out; omega)) (by have := HBL3.out; have := HL4.out; have := HL5.out; first | omega | (simp; done) | (simp; omega)) _) (HE6.out _ (by have := HBL3.out; have := HL4.out; have := HL5.out;  omega)), by have := HBL3.out; have := HBE.out; have := HBL3.out; have := HL4.out; have := HL5.out; omega, HB6.out,
                            (StrsAt.of_own (l := nsL n) (by simp [nsL]) HO4.out).keep (by have := HS6.out; have := HBL3.out; have := HL4.out; have := HL5.out; omega) (fun r hp hr => by
                              have e : r = wr.heap.size ∨ r = wr.heap.size + 1 := by
                                rcases HT4.out with h | h
                                · have e := hp.2; rw [h] at e; simp [Value.ownBlock] at e; left; omega
                                · have e := hp.2; rw [h] at e; simp at e; right; omega
                              have := HBL3.out; have := HBE.out; have := HBL3.out; have := HL4.out; have := HL5.out; 
                              exact ⟨⟨⟨by omega, by omega⟩, by simp [Value.ownBlock]⟩, fun j => Gn.cell_same ((HO6.out _ (by omega)).trans ((heap_alloc_old _ _ (by first | omega | (simp; done) | (simp; omega))).trans ((HG5.out.block _ (by first | omega | (simp; done) | (simp; omega)) (fun e => by have e : r = (w4.heap.size) := (by injection e); omega)).trans ((heap_alloc_old _ _ (by first | omega | (simp; done) | (simp; omega))).trans (rfl))))) j⟩),
                            (StrsAt.of_own (l := tsL t) (by simp [tsL]) HO5.out).keep (by have := HS6.out; have := HBL3.out; have := HL4.out; have := HL5.out; omega) (fun r hp hr => by
                              have e : r = w4.heap.size ∨ r = w4.heap.size + 1 := by
                                rcases HT5.out with h | h
                                · have e := hp.2; rw [h] at e; simp [Value.ownBlock] at e; left; omega
                                · have e := hp.2; rw [h] at e; simp at e; right; omega
                              have := HBL3.out; have := HBE.out; have := HBL3.out; have := HL4.out; have := HL5.out; 
                              exact ⟨⟨⟨by omega, by omega⟩, by simp [Value.ownBlock]⟩, fun j => Gn.cell_same ((HO6.out _ (by omega)).trans ((heap_alloc_old _ _ (by first | omega | (simp; done) | (simp; omega))).trans (rfl))) j⟩), PItems.nil _ _ _ _, Below.refl _ _⟩
                      refine AllReadyH.cons rfl (fun K hK => ?_) AllReadyH.nil
                      · go_simp
                        refine hK.out _ _ ((HKW.out _ ((heap_alloc_old _ _ (by have := HBL3.out; have := HL4.out; first | omega | (simp; done) | (simp; omega))).trans ((heap_alloc_old _ _ (by have := HBL3.out; have := HL4.out; first | omega | (simp; done) | (simp; omega))).trans ((HG4.out.block _ (by have := HBL3.out; first | omega | (simp; done) | (simp; omega)) (fun e => by have e : (B) = (wr.heap.size) := (by injection e); have := HBL3.out; omega)).trans ((heap_alloc_old _ _ (by have := HBL3.out; first | omega | (simp; done) | (simp; omega))).trans (rfl))))))) (fun hHeld => ?_)
                        clear hK K
                        try simp only [Act.put, List.setIfInBounds_toArray, List.set_cons_zero, List.set_cons_succ]
                        refine wpAnyH_ready (rs := [10]) (by kernel_rfl) (by simp) ?_
                        refine AllReadyH.cons rfl (fun K hK => ?_) AllReadyH.nil
                        refine step_append_strs _ (by rfl) (.tmp 152) (.tmp 154) (by rfl) wr.heap.size (.slice (some ⟨w4.heap.size, 0, none⟩) 0 0) 0 [] (by simp [Act.eval]) (own_empty (by exact (heap_alloc_old _ _ (by have := HBL3.out; have := HL4.out; first | omega | (simp; done) | (simp; omega))).trans (heap_new _ _ _ (by first | rfl | simp))) (by have := HBL3.out; have := HL4.out; omega)) _ (tsL t) vb (by simp [Act.eval]) (HA3.out.terms.under (by exact Below.alloc (Below.alloc (Below.grown (Gn.below_drew (Below.alloc (Below.refl _ _) (by have := HBL3.out; first | omega | (simp; done) | (simp; omega)) _)) HG4.out (by have := HBL3.out; first | omega | (simp; done) | (simp; omega)) (fun k hk => by have e : (wr.heap.size) = k := (by injection hk); have := HBL3.out; omega)) (by have := HBL3.out; have := HL4.out; first | omega | (simp; done) | (simp; omega)) _) (by have := HBL3.out; have := HL4.out; first | omega | (simp; done) | (simp; omega)) _)) (by simp [tsL]; omega) (by have := HBL3.out; have := HL4.out; first | omega | (simp; done) | (simp; omega)) ?_
                        intro v5 w5 hown5 hgrow5 hat5
                        rw [show 0 + (tsL t).length = t by simp [tsL]] at hown5
                        obtain ⟨A5, c5, rfl⟩ := Gn.slice_of hown5
                        have hl5 := hgrow5.size
                        try simp at hl5
                        have HL5 := Lib.hid hl5
                        have HO5 := Lib.hid hown5
                        have HG5 := Lib.hid hgrow5
                        have HT5 := Lib.hid hat5
                        clear hown5 hgrow5 hat5 hl5
                        refine hK.out _ _ ((HKW.out _ ((HG5.out.block _ (by have := HBL3.out; have := HL4.out; first | omega | (simp; done) | (simp; omega)) (fun e => by have e : (B) = (w4.heap.size) := (by injection e); have := HBL3.out; have := HL4.out; omega)).trans ((heap_alloc_old _ _ (by have := HBL3.out; have := HL4.out; first | omega | (simp; done) | (simp; omega))).trans ((heap_alloc_old _ _ (by have := HBL3.out; have := HL4.out; first | omega | (simp; done) | (simp; omega))).trans ((HG4.out.block _ (by have := HBL3.out; first | omega | (simp; done) | (simp; omega)) (fun e => by have e : (B) = (wr.heap.size) := (by injection e); have := HBL3.out; omega)).trans ((heap_alloc_old _ _ (by have := HBL3.out; first | omega | (simp; done) | (simp; omega))).trans (rfl)))))))) (fun hHeld => ?_)
                        clear hK K
                        try simp only [Act.put, List.setIfInBounds_toArray, List.set_cons_zero, List.set_cons_succ]
                        refine wpAnyH_take (i := 11) (v := ?_) rfl (by kernel_rfl) (by kernel_rfl) (by kernel_rfl) (fun _ _ _ h => h) (Or.inl ⟨by rfl, ?_⟩) (by assumption) ?_
                        rotate_left
                        · intro w hSw
                          try dsimp only at hSw
                          go_simp
                          try with_reducible rfl
                        try simp only [Act.put, List.setIfInBounds_toArray, List.set_cons_zero, List.set_cons_succ]
                        refine wpAnyH_ready (rs := [13]) (by kernel_rfl) (by simp) ?_
                        refine AllReadyH.cons rfl (fun K hK => ?_) AllReadyH.nil
                        refine step_store_box _ (by rfl) 31 (.tmp 13) (.tmp 156) (by rfl) (w4.heap.size + 1) (.int .i64 st) (.int .i64 n) (.slice A4 n c4) (.slice A5 t c5) (.slice none 0 0) _ _ _ _ _ _ (by simp [Act.eval]) (by simp [Act.eval]) ((HG5.out.block _ (by have := HBL3.out; have := HL4.out; first | omega | (simp; done) | (simp; omega)) (fun e => by have e : (w4.heap.size + 1) = (w4.heap.size) := (by injection e); have := HBL3.out; have := HL4.out; omega)).trans (heap_new _ _ _ (by first | rfl | simp))) (by kernel_rfl) (by simp [Value.oneCell']) ?_
                        intro w6 hbx6 hoth6 hbel6 hsz6
                        try simp at hsz6
                        have HB6 := Lib.hid hbx6
                        have HO6 := Lib.hid hoth6
                        have HE6 := Lib.hid hbel6
                        have HS6 := Lib.hid hsz6
                        clear hbx6 hoth6 hbel6 hsz6
                        refine hK.out _ _ ((HKW.out _ ((HO6.out _ (by have := HBL3.out; have := HBL3.out; have := HL4.out; have := HL5.out; omega)).trans ((HG5.out.block _ (by have := HBL3.out; have := HL4.out; first | omega | (simp; done) | (simp; omega)) (fun e => by have e : (B) = (w4.heap.size) := (by injection e); have := HBL3.out; have := HL4.out; omega)).trans ((heap_alloc_old _ _ (by have := HBL3.out; have := HL4.out; first | omega | (simp; done) | (simp; omega))).trans ((heap_alloc_old _ _ (by have := HBL3.out; have := HL4.out; first | omega | (simp; done) | (simp; omega))).trans ((HG4.out.block _ (by have := HBL3.out; first | omega | (simp; done) | (simp; omega)) (fun e => by have e : (B) = (wr.heap.size) := (by injection e); have := HBL3.out; omega)).trans ((heap_alloc_old _ _ (by have := HBL3.out; first | omega | (simp; done) | (simp; omega))).trans (rfl))))))))) (fun hHeld => ?_)
                        clear hK K
                        try simp only [Act.put, List.setIfInBounds_toArray, List.set_cons_zero, List.set_cons_succ]
                        refine wpAnyH_done (by kernel_rfl) ?_ _
                        refine NoPanic.normal ?_
                        go_wp2_with fail
                        first
                          | go_meet
                          | (rename_i d1 h1; cases h1; go_meet)
                          | (rename_i d1 h1 dd d2 h2; cases h1; cases h2; go_meet)
                          | (rename_i d1 h1 dd d2 h2 de d3 h3; cases h1; cases h2; cases h3; go_meet)
                        exact ⟨_, _, _, rfl, by have := HBL3.out; have := HL4.out; have := HL5.out;  omega, Below.trans (by exact Below.grown (Below.alloc (Below.alloc (Below.grown (Gn.below_drew (Below.alloc (Below.refl _ _) (by have := HBL3.out; first | omega | (simp; done) | (simp; omega)) _)) HG4.out (by have := HBL3.out; first | omega | (simp; done) | (simp; omega)) (fun k hk => by have e : (wr.heap.size) = k := (by injection hk); have := HBL3.out; omega)) (by have := HBL3.out; have := HL4.out; first | omega | (simp; done) | (simp; omega)) _) (by have := HBL3.out; have := HL4.out; first | omega | (simp; done) | (simp; omega)) _) HG5.out (by have := HBL3.out; have := HL4.out; first | omega | (simp; done) | (simp; omega)) (fun k hk => by have e : (w4.heap.size) = k := (by injection hk); have := HBL3.out; have := HL4.out; omega)) (HE6.out _ (by have := HBL3.out; have := HL4.out; have := HL5.out;  omega)), by have := HBL3.out; have := HBE.out; have := HBL3.out; have := HL4.out; have := HL5.out; omega, HB6.out,
                            (StrsAt.of_own (l := nsL n) (by simp [nsL]) HO4.out).keep (by have := HS6.out; have := HBL3.out; have := HL4.out; have := HL5.out; omega) (fun r hp hr => by
                              have e : r = wr.heap.size ∨ r = wr.heap.size + 1 := by
                                rcases HT4.out with h | h
                                · have e := hp.2; rw [h] at e; simp [Value.ownBlock] at e; left; omega
                                · have e := hp.2; rw [h] at e; simp at e; right; omega
                              have := HBL3.out; have := HBE.out; have := HBL3.out; have := HL4.out; have := HL5.out; 
                              exact ⟨⟨⟨by omega, by omega⟩, by simp [Value.ownBlock]⟩, fun j => Gn.cell_same ((HO6.out _ (by omega)).trans ((HG5.out.block _ (by first | omega | (simp; done) | (simp; omega)) (fun e => by have e : r = (w4.heap.size) := (by injection e); omega)).trans ((heap_alloc_old _ _ (by first | omega | (simp; done) | (simp; omega))).trans ((heap_alloc_old _ _ (by first | omega | (simp; done) | (simp; omega))).trans (rfl))))) j⟩),
                            (StrsAt.of_own (l := tsL t) (by simp [tsL]) HO5.out).keep (by have := HS6.out; have := HBL3.out; have := HL4.out; have := HL5.out; omega) (fun r hp hr => by
                              have e : r = w4.heap.size ∨ r = w4.heap.size + 1 + 1 := by
                                rcases HT5.out with h | h
                                · have e := hp.2; rw [h] at e; simp [Value.ownBlock] at e; left; omega
                                · have e := hp.2; rw [h] at e; simp at e; right; omega
                              have := HBL3.out; have := HBE.out; have := HBL3.out; have := HL4.out; have := HL5.out; 
                              exact ⟨⟨⟨by omega, by omega⟩, by simp [Value.ownBlock]⟩, fun j => Gn.cell_same ((HO6.out _ (by omega)).trans (rfl)) j⟩), PItems.nil _ _ _ _, Below.refl _ _⟩
                    refine AllReadyH.cons rfl (fun K hK => ?_) AllReadyH.nil
                    · go_simp
                      refine hK.out _ _ ((HKW.out _ ((heap_alloc_old _ _ (by have := HBL3.out; have := HL4.out; first | omega | (simp; done) | (simp; omega))).trans ((HG4.out.block _ (by have := HBL3.out; first | omega | (simp; done) | (simp; omega)) (fun e => by have e : (B) = (wr.heap.size) := (by injection e); have := HBL3.out; omega)).trans ((heap_alloc_old _ _ (by have := HBL3.out; first | omega | (simp; done) | (simp; omega))).trans (rfl)))))) (fun hHeld => ?_)
                      clear hK K
                      try simp only [Act.put, List.setIfInBounds_toArray, List.set_cons_zero, List.set_cons_succ]
                      refine wpAnyH_ready (rs := [7]) (by kernel_rfl) (by simp) ?_
                      refine AllReadyH.cons rfl (fun K hK => ?_) AllReadyH.nil
                      go_simp
                      refine hK.out _ _ ((HKW.out _ ((heap_alloc_old _ _ (by have := HBL3.out; have := HL4.out; first | omega | (simp; done) | (simp; omega))).trans ((heap_alloc_old _ _ (by have := HBL3.out; have := HL4.out; first | omega | (simp; done) | (simp; omega))).trans ((HG4.out.block _ (by have := HBL3.out; first | omega | (simp; done) | (simp; omega)) (fun e => by have e : (B) = (wr.heap.size) := (by injection e); have := HBL3.out; omega)).trans ((heap_alloc_old _ _ (by have := HBL3.out; first | omega | (simp; done) | (simp; omega))).trans (rfl))))))) (fun hHeld => ?_)
                      clear hK K
                      try simp only [Act.put, List.setIfInBounds_toArray, List.set_cons_zero, List.set_cons_succ]
                      refine wpAnyH_ready (rs := [10]) (by kernel_rfl) (by simp) ?_
                      refine AllReadyH.cons rfl (fun K hK => ?_) AllReadyH.nil
                      refine step_append_strs _ (by rfl) (.tmp 152) (.tmp 154) (by rfl) wr.heap.size (.slice (some ⟨w4.heap.size + 1, 0, none⟩) 0 0) 0 [] (by simp [Act.eval]) (own_empty (by exact heap_new _ _ _ (by first | rfl | simp)) (by have := HBL3.out; have := HL4.out; omega)) _ (tsL t) vb (by simp [Act.eval]) (HA3.out.terms.under (by exact Below.alloc (Below.alloc (Below.grown (Gn.below_drew (Below.alloc (Below.refl _ _) (by have := HBL3.out; first | omega | (simp; done) | (simp; omega)) _)) HG4.out (by have := HBL3.out; first | omega | (simp; done) | (simp; omega)) (fun k hk => by have e : (wr.heap.size) = k := (by injection hk); have := HBL3.out; omega)) (by have := HBL3.out; have := HL4.out; first | omega | (simp; done) | (simp; omega)) _) (by have := HBL3.out; have := HL4.out; first | omega | (simp; done) | (simp; omega)) _)) (by simp [tsL]; omega) (by have := HBL3.out; have := HL4.out; first | omega | (simp; done) | (simp; omega)) ?_
                      intro v5 w5 hown5 hgrow5 hat5
                      rw [show 0 + (tsL t).length = t by simp [tsL]] at hown5
                      obtain ⟨A5, c5, rfl⟩ := Gn.slice_of hown5
                      have hl5 := hgrow5.size
                      try simp at hl5
                      have HL5 := Lib.hid hl5
                      have HO5 := Lib.hid hown5
                      have HG5 := Lib.hid hgrow5
                      have HT5 := Lib.hid hat5
                      clear hown5 hgrow5 hat5 hl5
                      refine hK.out _ _ ((HKW.out _ ((HG5.out.block _ (by have := HBL3.out; have := HL4.out; first | omega | (simp; done) | (simp; omega)) (fun e => by have e : (B) = (w4.heap.size + 1) := (by injection e); have := HBL3.out; have := HL4.out; omega)).trans ((heap_alloc_old _ _ (by have := HBL3.out; have := HL4.out; first | omega | (simp; done) | (simp; omega))).trans ((heap_alloc_old _ _ (by have := HBL3.out; have := HL4.out; first | omega | (simp; done) | (simp; omega))).trans ((HG4.out.block _ (by have := HBL3.out; first | omega | (simp; done) | (simp; omega)) (fun e => by have e : (B) = (wr.heap.size) := (by injection e); have := HBL3.out; omega)).trans ((heap_alloc_old _ _ (by have := HBL3.out; first | omega | (simp; done) | (simp; omega))).trans (rfl)))))))) (fun hHeld => ?_)
                      clear hK K
                      try simp only [Act.put, List.setIfInBounds_toArray, List.set_cons_zero, List.set_cons_succ]
                      refine wpAnyH_take (i := 11) (v := ?_) rfl (by kernel_rfl) (by kernel_rfl) (by kernel_rfl) (fun _ _ _ h => h) (Or.inl ⟨by rfl, ?_⟩) (by assumption) ?_
                      rotate_left
                      · intro w hSw
                        try dsimp only at hSw
                        go_simp
                        try with_reducible rfl
                      try simp only [Act.put, List.setIfInBounds_toArray, List.set_cons_zero, List.set_cons_succ]
                      refine wpAnyH_ready (rs := [13]) (by kernel_rfl) (by simp) ?_
                      refine AllReadyH.cons rfl (fun K hK => ?_) AllReadyH.nil
                      refine step_store_box _ (by rfl) 31 (.tmp 13) (.tmp 156) (by rfl) (w4.heap.size) (.int .i64 st) (.int .i64 n) (.slice A4 n c4) (.slice A5 t c5) (.slice none 0 0) _ _ _ _ _ _ (by simp [Act.eval]) (by simp [Act.eval]) ((HG5.out.block _ (by have := HBL3.out; have := HL4.out; first | omega | (simp; done) | (simp; omega)) (fun e => by have e : (w4.heap.size) = (w4.heap.size + 1) := (by injection e); have := HBL3.out; have := HL4.out; omega)).trans ((heap_alloc_old _ _ (by have := HBL3.out; have := HL4.out; first | omega | (simp; done) | (simp; omega))).trans (heap_new _ _ _ (by first | rfl | simp)))) (by kernel_rfl) (by simp [Value.oneCell']) ?_
                      intro w6 hbx6 hoth6 hbel6 hsz6
                      try simp at hsz6
                      have HB6 := Lib.hid hbx6
                      have HO6 := Lib.hid hoth6
                      have HE6 := Lib.hid hbel6
                      have HS6 := Lib.hid hsz6
                      clear hbx6 hoth6 hbel6 hsz6
                      refine hK.out _ _ ((HKW.out _ ((HO6.out _ (by have := HBL3.out; have := HBL3.out; have := HL4.out; have := HL5.out; omega)).trans ((HG5.out.block _ (by have := HBL3.out; have := HL4.out; first | omega | (simp; done) | (simp; omega)) (fun e => by have e : (B) = (w4.heap.size + 1) := (by injection e); have := HBL3.out; have := HL4.out; omega)).trans ((heap_alloc_old _ _ (by have := HBL3.out; have := HL4.out; first | omega | (simp; done) | (simp; omega))).trans ((heap_alloc_old _ _ (by have := HBL3.out; have := HL4.out; first | omega | (simp; done) | (simp; omega))).trans ((HG4.out.block _ (by have := HBL3.out; first | omega | (simp; done) | (simp; omega)) (fun e => by have e : (B) = (wr.heap.size) := (by injection e); have := HBL3.out; omega)).trans ((heap_alloc_old _ _ (by have := HBL3.out; first | omega | (simp; done) | (simp; omega))).trans (rfl))))))))) (fun hHeld => ?_)
                      clear hK K
                      try simp only [Act.put, List.setIfInBounds_toArray, List.set_cons_zero, List.set_cons_succ]
                      refine wpAnyH_done (by kernel_rfl) ?_ _
                      refine NoPanic.normal ?_
                      go_wp2_with fail
                      first
                        | go_meet
                        | (rename_i d1 h1; cases h1; go_meet)
                        | (rename_i d1 h1 dd d2 h2; cases h1; cases h2; go_meet)
                        | (rename_i d1 h1 dd d2 h2 de d3 h3; cases h1; cases h2; cases h3; go_meet)
                      exact ⟨_, _, _, rfl, by have := HBL3.out; have := HL4.out; have := HL5.out;  omega, Below.trans (by exact Below.grown (Below.alloc (Below.alloc (Below.grown (Gn.below_drew (Below.alloc (Below.refl _ _) (by have := HBL3.out; first | omega | (simp; done) | (simp; omega)) _)) HG4.out (by have := HBL3.out; first | omega | (simp; done) | (simp; omega)) (fun k hk => by have e : (wr.heap.size) = k := (by injection hk); have := HBL3.out; omega)) (by have := HBL3.out; have := HL4.out; first | omega | (simp; done) | (simp; omega)) _) (by have := HBL3.out; have := HL4.out; first | omega | (simp; done) | (simp; omega)) _) HG5.out (by have := HBL3.out; have := HL4.out; first | omega | (simp; done) | (simp; omega)) (fun k hk => by have e : (w4.heap.size + 1) = k := (by injection hk); have := HBL3.out; have := HL4.out; omega)) (HE6.out _ (by have := HBL3.out; have := HL4.out; have := HL5.out;  omega)), by have := HBL3.out; have := HBE.out; have := HBL3.out; have := HL4.out; have := HL5.out; omega, HB6.out,
                          (StrsAt.of_own (l := nsL n) (by simp [nsL]) HO4.out).keep (by have := HS6.out; have := HBL3.out; have := HL4.out; have := HL5.out; omega) (fun r hp hr => by
                            have e : r = wr.heap.size ∨ r = wr.heap.size + 1 := by
                              rcases HT4.out with h | h
                              · have e := hp.2; rw [h] at e; simp [Value.ownBlock] at e; left; omega
                              · have e := hp.2; rw [h] at e; simp at e; right; omega
                            have := HBL3.out; have := HBE.out; have := HBL3.out; have := HL4.out; have := HL5.out; 
                            exact ⟨⟨⟨by omega, by omega⟩, by simp [Value.ownBlock]⟩, fun j => Gn.cell_same ((HO6.out _ (by omega)).trans ((HG5.out.block _ (by first | omega | (simp; done) | (simp; omega)) (fun e => by have e : r = (w4.heap.size + 1) := (by injection e); omega)).trans ((heap_alloc_old _ _ (by first | omega | (simp; done) | (simp; omega))).trans ((heap_alloc_old _ _ (by first | omega | (simp; done) | (simp; omega))).trans (rfl))))) j⟩),
                          (StrsAt.of_own (l := tsL t) (by simp [tsL]) HO5.out).keep (by have := HS6.out; have := HBL3.out; have := HL4.out; have := HL5.out; omega) (fun r hp hr => by
                            have e : r = w4.heap.size + 1 ∨ r = w4.heap.size + 1 + 1 := by
                              rcases HT5.out with h | h
                              · have e := hp.2; rw [h] at e; simp [Value.ownBlock] at e; left; omega
                              · have e := hp.2; rw [h] at e; simp at e; right; omega
                            have := HBL3.out; have := HBE.out; have := HBL3.out; have := HL4.out; have := HL5.out; 
                            exact ⟨⟨⟨by omega, by omega⟩, by simp [Value.ownBlock]⟩, fun j => Gn.cell_same ((HO6.out _ (by omega)).trans (rfl)) j⟩), PItems.nil _ _ _ _, Below.refl _ _⟩
                  refine AllReadyH.cons rfl (fun K hK => ?_) ?_
                  · go_simp
                    refine hK.out _ _ ((HKW.out _ ((heap_alloc_old _ _ (by have := HBL3.out; first | omega | (simp; done) | (simp; omega))).trans ((heap_alloc_old _ _ (by have := HBL3.out; first | omega | (simp; done) | (simp; omega))).trans (rfl))))) (fun hHeld => ?_)
                    clear hK K
                    try simp only [Act.put, List.setIfInBounds_toArray, List.set_cons_zero, List.set_cons_succ]
                    refine wpAnyH_ready (rs := [6, 12]) (by kernel_rfl) (by simp) ?_
                    refine AllReadyH.cons rfl (fun K hK => ?_) ?_
                    · refine step_append_strs _ (by rfl) (.tmp 148) (.tmp 150) (by rfl) wr.heap.size (.slice (some ⟨wr.heap.size, 0, none⟩) 0 0) 0 [] (by simp [Act.eval]) (own_empty (by exact (heap_alloc_old _ _ (by have := HBL3.out; first | omega | (simp; done) | (simp; omega))).trans (heap_new _ _ _ (by first | rfl | simp))) (by have := HBL3.out; omega)) _ (nsL n) va (by simp [Act.eval]) (HA3.out.names.under (by exact Gn.below_drew (Below.alloc (Below.alloc (Below.refl _ _) (by have := HBL3.out; first | omega | (simp; done) | (simp; omega)) _) (by have := HBL3.out; first | omega | (simp; done) | (simp; omega)) _))) (by simp [nsL]; omega) (by have := HBL3.out; first | omega | (simp; done) | (simp; omega)) ?_
                      intro v4 w4 hown4 hgrow4 hat4
                      rw [show 0 + (nsL n).length = n by simp [nsL]] at hown4
                      obtain ⟨A4, c4, rfl⟩ := Gn.slice_of hown4
                      have hl4 := hgrow4.size
                      try simp at hl4
                      have HL4 := Lib.hid hl4
                      have HO4 := Lib.hid hown4
                      have HG4 := Lib.hid hgrow4
                      have HT4 := Lib.hid hat4
                      clear hown4 hgrow4 hat4 hl4
                      refine hK.out _ _ ((HKW.out _ ((HG4.out.block _ (by have := HBL3.out; first | omega | (simp; done) | (simp; omega)) (fun e => by have e : (B) = (wr.heap.size) := (by injection e); have := HBL3.out; omega)).trans ((heap_alloc_old _ _ (by have := HBL3.out; first | omega | (simp; done) | (simp; omega))).trans ((heap_alloc_old _ _ (by have := HBL3.out; first | omega | (simp; done) | (simp; omega))).trans (rfl)))))) (fun hHeld => ?_)
                      clear hK K
                      try simp only [Act.put, List.setIfInBounds_toArray, List.set_cons_zero, List.set_cons_succ]
                      refine wpAnyH_ready (rs := [10, 12]) (by kernel_rfl) (by simp) ?_
                      refine AllReadyH.cons rfl (fun K hK => ?_) ?_
                      · refine step_append_strs _ (by rfl) (.tmp 152) (.tmp 154) (by rfl) wr.heap.size (.slice (some ⟨wr.heap.size + 1, 0, none⟩) 0 0) 0 [] (by simp [Act.eval]) (own_empty (by exact (HG4.out.block _ (by have := HBL3.out; first | omega | (simp; done) | (simp; omega)) (fun e => by have e : (wr.heap.size + 1) = (wr.heap.size) := (by injection e); have := HBL3.out; omega)).trans (heap_new _ _ _ (by first | rfl | simp))) (by have := HBL3.out; have := HL4.out; omega)) _ (tsL t) vb (by simp [Act.eval]) (HA3.out.terms.under (by exact Below.grown (Gn.below_drew (Below.alloc (Below.alloc (Below.refl _ _) (by have := HBL3.out; first | omega | (simp; done) | (simp; omega)) _) (by have := HBL3.out; first | omega | (simp; done) | (simp; omega)) _)) HG4.out (by have := HBL3.out; first | omega | (simp; done) | (simp; omega)) (fun k hk => by have e : (wr.heap.size) = k := (by injection hk); have := HBL3.out; omega))) (by simp [tsL]; omega) (by have := HBL3.out; have := HL4.out; first | omega | (simp; done) | (simp; omega)) ?_
                        intro v5 w5 hown5 hgrow5 hat5
                        rw [show 0 + (tsL t).length = t by simp [tsL]] at hown5
                        obtain ⟨A5, c5, rfl⟩ := Gn.slice_of hown5
                        have hl5 := hgrow5.size
                        try simp at hl5
                        have HL5 := Lib.hid hl5
                        have HO5 := Lib.hid hown5
                        have HG5 := Lib.hid hgrow5
                        have HT5 := Lib.hid hat5
                        clear hown5 hgrow5 hat5 hl5
                        refine hK.out _ _ ((HKW.out _ ((HG5.out.block _ (by have := HBL3.out; have := HL4.out; first | omega | (simp; done) | (simp; omega)) (fun e => by have e : (B) = (wr.heap.size + 1) := (by injection e); have := HBL3.out; have := HL4.out; omega)).trans ((HG4.out.block _ (by have := HBL3.out; first | omega | (simp; done) | (simp; omega)) (fun e => by have e : (B) = (wr.heap.size) := (by injection e); have := HBL3.out; omega)).trans ((heap_alloc_old _ _ (by have := HBL3.out; first | omega | (simp; done) | (simp; omega))).trans ((heap_alloc_old _ _ (by have := HBL3.out; first | omega | (simp; done) | (simp; omega))).trans (rfl))))))) (fun hHeld => ?_)
                        clear hK K
                        try simp only [Act.put, List.setIfInBounds_toArray, List.set_cons_zero, List.set_cons_succ]
                        refine wpAnyH_take (i := 11) (v := ?_) rfl (by kernel_rfl) (by kernel_rfl) (by kernel_rfl) (fun _ _ _ h => h) (Or.inl ⟨by rfl, ?_⟩) (by assumption) ?_
                        rotate_left
                        · intro w hSw
                          try dsimp only at hSw
                          go_simp
                          try with_reducible rfl
                        try simp only [Act.put, List.setIfInBounds_toArray, List.set_cons_zero, List.set_cons_succ]
                        refine wpAnyH_ready (rs := [12]) (by kernel_rfl) (by simp) ?_
                        refine AllReadyH.cons rfl (fun K hK => ?_) AllReadyH.nil
                        go_simp
                        refine hK.out _ _ ((HKW.out _ ((heap_alloc_old _ _ (by have := HBL3.out; have := HL4.out; have := HL5.out; first | omega | (simp; done) | (simp; omega))).trans ((HG5.out.block _ (by have := HBL3.out; have := HL4.out; first | omega | (simp; done) | (simp; omega)) (fun e => by have e : (B) = (wr.heap.size + 1) := (by injection e); have := HBL3.out; have := HL4.out; omega)).trans ((HG4.out.block _ (by have := HBL3.out; first | omega | (simp; done) | (simp; omega)) (fun e => by have e : (B) = (wr.heap.size) := (by injection e); have := HBL3.out; omega)).trans ((heap_alloc_old _ _ (by have := HBL3.out; first | omega | (simp; done) | (simp; omega))).trans ((heap_alloc_old _ _ (by have := HBL3.out; first | omega | (simp; done) | (simp; omega))).trans (rfl)))))))) (fun hHeld => ?_)
                        clear hK K
                        try simp only [Act.put, List.setIfInBounds_toArray, List.set_cons_zero, List.set_cons_succ]
                        refine wpAnyH_ready (rs := [13]) (by kernel_rfl) (by simp) ?_
                        refine AllReadyH.cons rfl (fun K hK => ?_) AllReadyH.nil
                        refine step_store_box _ (by rfl) 31 (.tmp 13) (.tmp 156) (by rfl) (w5.heap.size) (.int .i64 st) (.int .i64 n) (.slice A4 n c4) (.slice A5 t c5) (.slice none 0 0) _ _ _ _ _ _ (by simp [Act.eval]) (by simp [Act.eval]) (heap_new _ _ _ (by first | rfl | simp)) (by kernel_rfl) (by simp [Value.oneCell']) ?_
                        intro w6 hbx6 hoth6 hbel6 hsz6
                        try simp at hsz6
                        have HB6 := Lib.hid hbx6
                        have HO6 := Lib.hid hoth6
                        have HE6 := Lib.hid hbel6
                        have HS6 := Lib.hid hsz6
                        clear hbx6 hoth6 hbel6 hsz6
                        refine hK.out _ _ ((HKW.out _ ((HO6.out _ (by have := HBL3.out; have := HBL3.out; have := HL4.out; have := HL5.out; omega)).trans ((heap_alloc_old _ _ (by have := HBL3.out; have := HL4.out; have := HL5.out; first | omega | (simp; done) | (simp; omega))).trans ((HG5.out.block _ (by have := HBL3.out; have := HL4.out; first | omega | (simp; done) | (simp; omega)) (fun e => by have e : (B) = (wr.heap.size + 1) := (by injection e); have := HBL3.out; have := HL4.out; omega)).trans ((HG4.out.block _ (by have := HBL3.out; first | omega | (simp; done) | (simp; omega)) (fun e => by have e : (B) = (wr.heap.size) := (by injection e); have := HBL3.out; omega)).trans ((heap_alloc_old _ _ (by have := HBL3.out; first | omega | (simp; done) | (simp; omega))).trans ((heap_alloc_old _ _ (by have := HBL3.out; first | omega | (simp; done) | (simp; omega))).trans (rfl))))))))) (fun hHeld => ?_)
                        clear hK K
                        try simp only [Act.put, List.setIfInBounds_toArray, List.set_cons_zero, List.set_cons_succ]
                        refine wpAnyH_done (by kernel_rfl) ?_ _
                        refine NoPanic.normal ?_
                        go_wp2_with fail
                        first
                          | go_meet
                          | (rename_i d1 h1; cases h1; go_meet)
                          | (rename_i d1 h1 dd d2 h2; cases h1; cases h2; go_meet)
                          | (rename_i d1 h1 dd d2 h2 de d3 h3; cases h1; cases h2; cases h3; go_meet)
                        exact ⟨_, _, _, rfl, by have := HBL3.out; have := HL4.out; have := HL5.out;  omega, Below.trans (by exact Below.alloc (Below.grown (Below.grown (Gn.below_drew (Below.alloc (Below.alloc (Below.refl _ _) (by have := HBL3.out; first | omega | (simp; done) | (simp; omega)) _) (by have := HBL3.out; first | omega | (simp; done) | (simp; omega)) _)) HG4.out (by have := HBL3.out; first | omega | (simp; done) | (simp; omega)) (fun k hk => by have e : (wr.heap.size) = k := (by injection hk); have := HBL3.out; omega)) HG5.out (by have := HBL3.out; have := HL4.out; first | omega | (simp; done) | (simp; omega)) (fun k hk => by have e : (wr.heap.size + 1) = k := (by injection hk); have := HBL3.out; have := HL4.out; omega)) (by have := HBL3.out; have := HL4.out; have := HL5.out; first | omega | (simp; done) | (simp; omega)) _) (HE6.out _ (by have := HBL3.out; have := HL4.out; have := HL5.out;  omega)), by have := HBL3.out; have := HBE.out; have := HBL3.out; have := HL4.out; have := HL5.out; omega, HB6.out,
                            (StrsAt.of_own (l := nsL n) (by simp [nsL]) HO4.out).keep (by have := HS6.out; have := HBL3.out; have := HL4.out; have := HL5.out; omega) (fun r hp hr => by
                              have e : r = wr.heap.size ∨ r = wr.heap.size + 1 + 1 := by
                                rcases HT4.out with h | h
                                · have e := hp.2; rw [h] at e; simp [Value.ownBlock] at e; left; omega
                                · have e := hp.2; rw [h] at e; simp at e; right; omega
                              have := HBL3.out; have := HBE.out; have := HBL3.out; have := HL4.out; have := HL5.out; 
                              exact ⟨⟨⟨by omega, by omega⟩, by simp [Value.ownBlock]⟩, fun j => Gn.cell_same ((HO6.out _ (by omega)).trans ((heap_alloc_old _ _ (by first | omega | (simp; done) | (simp; omega))).trans ((HG5.out.block _ (by first | omega | (simp; done) | (simp; omega)) (fun e => by have e : r = (wr.heap.size + 1) := (by injection e); omega)).trans (rfl)))) j⟩),
                            (StrsAt.of_own (l := tsL t) (by simp [tsL]) HO5.out).keep (by have := HS6.out; have := HBL3.out; have := HL4.out; have := HL5.out; omega) (fun r hp hr => by
                              have e : r = wr.heap.size + 1 ∨ r = w4.heap.size := by
                                rcases HT5.out with h | h
                                · have e := hp.2; rw [h] at e; simp [Value.ownBlock] at e; left; omega
                                · have e := hp.2; rw [h] at e; simp at e; right; omega
                              have := HBL3.out; have := HBE.out; have := HBL3.out; have := HL4.out; have := HL5.out; 
                              exact ⟨⟨⟨by omega, by omega⟩, by simp [Value.ownBlock]⟩, fun j => Gn.cell_same ((HO6.out _ (by omega)).trans ((heap_alloc_old _ _ (by first | omega | (simp; done) | (simp; omega))).trans (rfl))) j⟩), PItems.nil _ _ _ _, Below.refl _ _⟩
                      refine AllReadyH.cons rfl (fun K hK => ?_) AllReadyH.nil
                      · go_simp
                        refine hK.out _ _ ((HKW.out _ ((heap_alloc_old _ _ (by have := HBL3.out; have := HL4.out; first | omega | (simp; done) | (simp; omega))).trans ((HG4.out.block _ (by have := HBL3.out; first | omega | (simp; done) | (simp; omega)) (fun e => by have e : (B) = (wr.heap.size) := (by injection e); have := HBL3.out; omega)).trans ((heap_alloc_old _ _ (by have := HBL3.out; first | omega | (simp; done) | (simp; omega))).trans ((heap_alloc_old _ _ (by have := HBL3.out; first | omega | (simp; done) | (simp; omega))).trans (rfl))))))) (fun hHeld => ?_)
                        clear hK K
                        try simp only [Act.put, List.setIfInBounds_toArray, List.set_cons_zero, List.set_cons_succ]
                        refine wpAnyH_ready (rs := [10]) (by kernel_rfl) (by simp) ?_
                        refine AllReadyH.cons rfl (fun K hK => ?_) AllReadyH.nil
                        refine step_append_strs _ (by rfl) (.tmp 152) (.tmp 154) (by rfl) wr.heap.size (.slice (some ⟨wr.heap.size + 1, 0, none⟩) 0 0) 0 [] (by simp [Act.eval]) (own_empty (by exact (heap_alloc_old _ _ (by have := HBL3.out; have := HL4.out; first | omega | (simp; done) | (simp; omega))).trans ((HG4.out.block _ (by have := HBL3.out; first | omega | (simp; done) | (simp; omega)) (fun e => by have e : (wr.heap.size + 1) = (wr.heap.size) := (by injection e); have := HBL3.out; omega)).trans (heap_new _ _ _ (by first | rfl | simp)))) (by have := HBL3.out; have := HL4.out; omega)) _ (tsL t) vb (by simp [Act.eval]) (HA3.out.terms.under (by exact Below.alloc (Below.grown (Gn.below_drew (Below.alloc (Below.alloc (Below.refl _ _) (by have := HBL3.out; first | omega | (simp; done) | (simp; omega)) _) (by have := HBL3.out; first | omega | (simp; done) | (simp; omega)) _)) HG4.out (by have := HBL3.out; first | omega | (simp; done) | (simp; omega)) (fun k hk => by have e : (wr.heap.size) = k := (by injection hk); have := HBL3.out; omega)) (by have := HBL3.out; have := HL4.out; first | omega | (simp; done) | (simp; omega)) _)) (by simp [tsL]; omega) (by have := HBL3.out; have := HL4.out; first | omega | (simp; done) | (simp; omega)) ?_
                        intro v5 w5 hown5 hgrow5 hat5
                        rw [show 0 + (tsL t).length = t by simp [tsL]] at hown5
                        obtain ⟨A5, c5, rfl⟩ := Gn.slice_of hown5
                        have hl5 := hgrow5.size
                        try simp at hl5
                        have HL5 := Lib.hid hl5
                        have HO5 := Lib.hid hown5
                        have HG5 := Lib.hid hgrow5
                        have HT5 := Lib.hid hat5
                        clear hown5 hgrow5 hat5 hl5
                        refine hK.out _ _ ((HKW.out _ ((HG5.out.block _ (by have := HBL3.out; have := HL4.out; first | omega | (simp; done) | (simp; omega)) (fun e => by have e : (B) = (wr.heap.size + 1) := (by injection e); have := HBL3.out; have := HL4.out; omega)).trans ((heap_alloc_old _ _ (by have := HBL3.out; have := HL4.out; first | omega | (simp; done) | (simp; omega))).trans ((HG4.out.block _ (by have := HBL3.out; first | omega | (simp; done) | (simp; omega)) (fun e => by have e : (B) = (wr.heap.size) := (by injection e); have := HBL3.out; omega)).trans ((heap_alloc_old _ _ (by have := HBL3.out; first | omega | (simp; done) | (simp; omega))).trans ((heap_alloc_old _ _ (by have := HBL3.out; first | omega | (simp; done) | (simp; omega))).trans (rfl)))))))) (fun hHeld => ?_)
                        clear hK K
                        try simp only [Act.put, List.setIfInBounds_toArray, List.set_cons_zero, List.set_cons_succ]
                        refine wpAnyH_take (i := 11) (v := ?_) rfl (by kernel_rfl) (by kernel_rfl) (by kernel_rfl) (fun _ _ _ h => h) (Or.inl ⟨by rfl, ?_⟩) (by assumption) ?_
                        rotate_left
                        · intro w hSw
                          try dsimp only at hSw
                          go_simp
                          try with_reducible rfl
                        try simp only [Act.put, List.setIfInBounds_toArray, List.set_cons_zero, List.set_cons_succ]
                        refine wpAnyH_ready (rs := [13]) (by kernel_rfl) (by simp) ?_
                        refine AllReadyH.cons rfl (fun K hK => ?_) AllReadyH.nil
                        refine step_store_box _ (by rfl) 31 (.tmp 13) (.tmp 156) (by rfl) (w4.heap.size) (.int .i64 st) (.int .i64 n) (.slice A4 n c4) (.slice A5 t c5) (.slice none 0 0) _ _ _ _ _ _ (by simp [Act.eval]) (by simp [Act.eval]) ((HG5.out.block _ (by have := HBL3.out; have := HL4.out; first | omega | (simp; done) | (simp; omega)) (fun e => by have e : (w4.heap.size) = (wr.heap.size + 1) := (by injection e); have := HBL3.out; have := HL4.out; omega)).trans (heap_new _ _ _ (by first | rfl | simp))) (by kernel_rfl) (by simp [Value.oneCell']) ?_
                        intro w6 hbx6 hoth6 hbel6 hsz6
                        try simp at hsz6
                        have HB6 := Lib.hid hbx6
                        have HO6 := Lib.hid hoth6
                        have HE6 := Lib.hid hbel6
                        have HS6 := Lib.hid hsz6
                        clear hbx6 hoth6 hbel6 hsz6
                        refine hK.out _ _ ((HKW.out _ ((HO6.out _ (by have := HBL3.out; have := HBL3.out; have := HL4.out; have := HL5.out; omega)).trans ((HG5.out.block _ (by have := HBL3.out; have := HL4.out; first | omega | (simp; done) | (simp; omega)) (fun e => by have e : (B) = (wr.heap.size + 1) := (by injection e); have := HBL3.out; have := HL4.out; omega)).trans ((heap_alloc_old _ _ (by have := HBL3.out; have := HL4.out; first | omega | (simp; done) | (simp; omega))).trans ((HG4.out.block _ (by have := HBL3.out; first | omega | (simp; done) | (simp; omega)) (fun e => by have e : (B) = (wr.heap.size) := (by injection e); have := HBL3.out; omega)).trans ((heap_alloc_old _ _ (by have := HBL3.out; first | omega | (simp; done) | (simp; omega))).trans ((heap_alloc_old _ _ (by have := HBL3.out; first | omega | (simp; done) | (simp; omega))).trans (rfl))))))))) (fun hHeld => ?_)
                        clear hK K
                        try simp only [Act.put, List.setIfInBounds_toArray, List.set_cons_zero, List.set_cons_succ]
                        refine wpAnyH_done (by kernel_rfl) ?_ _
                        refine NoPanic.normal ?_
                        go_wp2_with fail
                        first
                          | go_meet
                          | (rename_i d1 h1; cases h1; go_meet)
                          | (rename_i d1 h1 dd d2 h2; cases h1; cases h2; go_meet)
                          | (rename_i d1 h1 dd d2 h2 de d3 h3; cases h1; cases h2; cases h3; go_meet)
                        exact ⟨_, _, _, rfl, by have := HBL3.out; have := HL4.out; have := HL5.out;  omega, Below.trans (by exact Below.grown (Below.alloc (Below.grown (Gn.below_drew (Below.alloc (Below.alloc (Below.refl _ _) (by have := HBL3.out; first | omega | (simp; done) | (simp; omega)) _) (by have := HBL3.out; first | omega | (simp; done) | (simp; omega)) _)) HG4.out (by have := HBL3.out; first | omega | (simp; done) | (simp; omega)) (fun k hk => by have e : (wr.heap.size) = k := (by injection hk); have := HBL3.out; omega)) (by have := HBL3.out; have := HL4.out; first | omega | (simp; done) | (simp; omega)) _) HG5.out (by have := HBL3.out; have := HL4.out; first | omega | (simp; done) | (simp; omega)) (fun k hk => by have e : (wr.heap.size + 1) = k := (by injection hk); have := HBL3.out; have := HL4.out; omega)) (HE6.out _ (by have := HBL3.out; have := HL4.out; have := HL5.out;  omega)), by have := HBL3.out; have := HBE.out; have := HBL3.out; have := HL4.out; have := HL5.out; omega, HB6.out,
                            (StrsAt.of_own (l := nsL n) (by simp [nsL]) HO4.out).keep (by have := HS6.out; have := HBL3.out; have := HL4.out; have := HL5.out; omega) (fun r hp hr => by
                              have e : r = wr.heap.size ∨ r = wr.heap.size + 1 + 1 := by
                                rcases HT4.out with h | h
                                · have e := hp.2; rw [h] at e; simp [Value.ownBlock] at e; left; omega
                                · have e := hp.2; rw [h] at e; simp at e; right; omega
                              have := HBL3.out; have := HBE.out; have := HBL3.out; have := HL4.out; have := HL5.out; 
                              exact ⟨⟨⟨by omega, by omega⟩, by simp [Value.ownBlock]⟩, fun j => Gn.cell_same ((HO6.out _ (by omega)).trans ((HG5.out.block _ (by first | omega | (simp; done) | (simp; omega)) (fun e => by have e : r = (wr.heap.size + 1) := (by injection e); omega)).trans ((heap_alloc_old _ _ (by first | omega | (simp; done) | (simp; omega))).trans (rfl)))) j⟩),
                            (StrsAt.of_own (l := tsL t) (by simp [tsL]) HO5.out).keep (by have := HS6.out; have := HBL3.out; have := HL4.out; have := HL5.out; omega) (fun r hp hr => by
                              have e : r = wr.heap.size + 1 ∨ r = w4.heap.size + 1 := by
                                rcases HT5.out with h | h
                                · have e := hp.2; rw [h] at e; simp [Value.ownBlock] at e; left; omega
                                · have e := hp.2; rw [h] at e; simp at e; right; omega
                              have := HBL3.out; have := HBE.out; have := HBL3.out; have := HL4.out; have := HL5.out; 
                              exact ⟨⟨⟨by omega, by omega⟩, by simp [Value.ownBlock]⟩, fun j => Gn.cell_same ((HO6.out _ (by omega)).trans (rfl)) j⟩), PItems.nil _ _ _ _, Below.refl _ _⟩
                    refine AllReadyH.cons rfl (fun K hK => ?_) AllReadyH.nil
                    · go_simp
                      refine hK.out _ _ ((HKW.out _ ((heap_alloc_old _ _ (by have := HBL3.out; first | omega | (simp; done) | (simp; omega))).trans ((heap_alloc_old _ _ (by have := HBL3.out; first | omega | (simp; done) | (simp; omega))).trans ((heap_alloc_old _ _ (by have := HBL3.out; first | omega | (simp; done) | (simp; omega))).trans (rfl)))))) (fun hHeld => ?_)
                      clear hK K
                      try simp only [Act.put, List.setIfInBounds_toArray, List.set_cons_zero, List.set_cons_succ]
                      refine wpAnyH_ready (rs := [6]) (by kernel_rfl) (by simp) ?_
                      refine AllReadyH.cons rfl (fun K hK => ?_) AllReadyH.nil
                      refine step_append_strs _ (by rfl) (.tmp 148) (.tmp 150) (by rfl) wr.heap.size (.slice (some ⟨wr.heap.size, 0, none⟩) 0 0) 0 [] (by simp [Act.eval]) (own_empty (by exact (heap_alloc_old _ _ (by have := HBL3.out; first | omega | (simp; done) | (simp; omega))).trans ((heap_alloc_old _ _ (by have := HBL3.out; first | omega | (simp; done) | (simp; omega))).trans (heap_new _ _ _ (by first | rfl | simp)))) (by have := HBL3.out; omega)) _ (nsL n) va (by simp [Act.eval]) (HA3.out.names.under (by exact Gn.below_drew (Below.alloc (Below.alloc (Below.alloc (Below.refl _ _) (by have := HBL3.out; first | omega | (simp; done) | (simp; omega)) _) (by have := HBL3.out; first | omega | (simp; done) | (simp; omega)) _) (by have := HBL3.out; first | omega | (simp; done) | (simp; omega)) _))) (by simp [nsL]; omega) (by have := HBL3.out; first | omega | (simp; done) | (simp; omega)) ?_
                      intro v4 w4 hown4 hgrow4 hat4
                      rw [show 0 + (nsL n).length = n by simp [nsL]] at hown4
                      obtain ⟨A4, c4, rfl⟩ := Gn.slice_of hown4
                      have hl4 := hgrow4.size
                      try simp at hl4
                      have HL4 := Lib.hid hl4
                      have HO4 := Lib.hid hown4
                      have HG4 := Lib.hid hgrow4
                      have HT4 := Lib.hid hat4
                      clear hown4 hgrow4 hat4 hl4
                      refine hK.out _ _ ((HKW.out _ ((HG4.out.block _ (by have := HBL3.out; first | omega | (simp; done) | (simp; omega)) (fun e => by have e : (B) = (wr.heap.size) := (by injection e); have := HBL3.out; omega)).trans ((heap_alloc_old _ _ (by have := HBL3.out; first | omega | (simp; done) | (simp; omega))).trans ((heap_alloc_old _ _ (by have := HBL3.out; first | omega | (simp; done) | (simp; omega))).trans ((heap_alloc_old _ _ (by have := HBL3.out; first | omega | (simp; done) | (simp; omega))).trans (rfl))))))) (fun hHeld => ?_)
                      clear hK K
                      try simp only [Act.put, List.setIfInBounds_toArray, List.set_cons_zero, List.set_cons_succ]
                      refine wpAnyH_ready (rs := [10]) (by kernel_rfl) (by simp) ?_
                      refine AllReadyH.cons rfl (fun K hK => ?_) AllReadyH.nil
                      refine step_append_strs _ (by rfl) (.tmp 152) (.tmp 154) (by rfl) wr.heap.size (.slice (some ⟨wr.heap.size + 1, 0, none⟩) 0 0) 0 [] (by simp [Act.eval]) (own_empty (by exact (HG4.out.block _ (by have := HBL3.out; first | omega | (simp; done) | (simp; omega)) (fun e => by have e : (wr.heap.size + 1) = (wr.heap.size) := (by injection e); have := HBL3.out; omega)).trans ((heap_alloc_old _ _ (by have := HBL3.out; first | omega | (simp; done) | (simp; omega))).trans (heap_new _ _ _ (by first | rfl | simp)))) (by have := HBL3.out; have := HL4.out; omega)) _ (tsL t) vb (by simp [Act.eval]) (HA3.out.terms.under (by exact Below.grown (Gn.below_drew (Below.alloc (Below.alloc (Below.alloc (Below.refl _ _) (by have := HBL3.out; first | omega | (simp; done) | (simp; omega)) _) (by have := HBL3.out; first | omega | (simp; done) | (simp; omega)) _) (by have := HBL3.out; first | omega | (simp; done) | (simp; omega)) _)) HG4.out (by have := HBL3.out; first | omega | (simp; done) | (simp; omega)) (fun k hk => by have e : (wr.heap.size) = k := (by injection hk); have := HBL3.out; omega))) (by simp [tsL]; omega) (by have := HBL3.out; have := HL4.out; first | omega | (simp; done) | (simp; omega)) ?_
                      intro v5 w5 hown5 hgrow5 hat5
                      rw [show 0 + (tsL t).length = t by simp [tsL]] at hown5
                      obtain ⟨A5, c5, rfl⟩ := Gn.slice_of hown5
                      have hl5 := hgrow5.size
                      try simp at hl5
                      have HL5 := Lib.hid hl5
                      have HO5 := Lib.hid hown5
                      have HG5 := Lib.hid hgrow5
                      have HT5 := Lib.hid hat5
                      clear hown5 hgrow5 hat5 hl5
                      refine hK.out _ _ ((HKW.out _ ((HG5.out.block _ (by have := HBL3.out; have := HL4.out; first | omega | (simp; done) | (simp; omega)) (fun e => by have e : (B) = (wr.heap.size + 1) := (by injection e); have := HBL3.out; have := HL4.out; omega)).trans ((HG4.out.block _ (by have := HBL3.out; first | omega | (simp; done) | (simp; omega)) (fun e => by have e : (B) = (wr.heap.size) := (by injection e); have := HBL3.out; omega)).trans ((heap_alloc_old _ _ (by have := HBL3.out; first | omega | (simp; done) | (simp; omega))).trans ((heap_alloc_old _ _ (by have := HBL3.out; first | omega | (simp; done) | (simp; omega))).trans ((heap_alloc_old _ _ (by have := HBL3.out; first | omega | (simp; done) | (simp; omega))).trans (rfl)))))))) (fun hHeld => ?_)
                      clear hK K
                      try simp only [Act.put, List.setIfInBounds_toArray, List.set_cons_zero, List.set_cons_succ]
                      refine wpAnyH_take (i := 11) (v := ?_) rfl (by kernel_rfl) (by kernel_rfl) (by kernel_rfl) (fun _ _ _ h => h) (Or.inl ⟨by rfl, ?_⟩) (by assumption) ?_
                      rotate_left
                      · intro w hSw
                        try dsimp only at hSw
                        go_simp
                        try with_reducible rfl
                      try simp only [Act.put, List.setIfInBounds_toArray, List.set_cons_zero, List.set_cons_succ]
                      refine wpAnyH_ready (rs := [13]) (by kernel_rfl) (by simp) ?_
                      refine AllReadyH.cons rfl (fun K hK => ?_) AllReadyH.nil
                      refine step_store_box _ (by rfl) 31 (.tmp 13) (.tmp 156) (by rfl) (wr.heap.size + 1 + 1) (.int .i64 st) (.int .i64 n) (.slice A4 n c4) (.slice A5 t c5) (.slice none 0 0) _ _ _ _ _ _ (by simp [Act.eval]) (by simp [Act.eval]) ((HG5.out.block _ (by have := HBL3.out; have := HL4.out; first | omega | (simp; done) | (simp; omega)) (fun e => by have e : (wr.heap.size + 1 + 1) = (wr.heap.size + 1) := (by injection e); have := HBL3.out; have := HL4.out; omega)).trans ((HG4.out.block _ (by have := HBL3.out; first | omega | (simp; done) | (simp; omega)) (fun e => by have e : (wr.heap.size + 1 + 1) = (wr.heap.size) := (by injection e); have := HBL3.out; omega)).trans (heap_new _ _ _ (by first | rfl | simp)))) (by kernel_rfl) (by simp [Value.oneCell']) ?_
                      intro w6 hbx6 hoth6 hbel6 hsz6
                      try simp at hsz6
                      have HB6 := Lib.hid hbx6
                      have HO6 := Lib.hid hoth6
                      have HE6 := Lib.hid hbel6
                      have HS6 := Lib.hid hsz6
                      clear hbx6 hoth6 hbel6 hsz6
                      refine hK.out _ _ ((HKW.out _ ((HO6.out _ (by have := HBL3.out; have := HBL3.out; have := HL4.out; have := HL5.out; omega)).trans ((HG5.out.block _ (by have := HBL3.out; have := HL4.out; first | omega | (simp; done) | (simp; omega)) (fun e => by have e : (B) = (wr.heap.size + 1) := (by injection e); have := HBL3.out; have := HL4.out; omega)).trans ((HG4.out.block _ (by have := HBL3.out; first | omega | (simp; done) | (simp; omega)) (fun e => by have e : (B) = (wr.heap.size) := (by injection e); have := HBL3.out; omega)).trans ((heap_alloc_old _ _ (by have := HBL3.out; first | omega | (simp; done) | (simp; omega))).trans ((heap_alloc_old _ _ (by have := HBL3.out; first | omega | (simp; done) | (simp; omega))).trans ((heap_alloc_old _ _ (by have := HBL3.out; first | omega | (simp; done) | (simp; omega))).trans (rfl))))))))) (fun hHeld => ?_)
                      clear hK K
                      try simp only [Act.put, List.setIfInBounds_toArray, List.set_cons_zero, List.set_cons_succ]
                      refine wpAnyH_done (by kernel_rfl) ?_ _
                      refine NoPanic.normal ?_
                      go_wp2_with fail
                      first
                        | go_meet
                        | (rename_i d1 h1; cases h1; go_meet)
                        | (rename_i d1 h1 dd d2 h2; cases h1; cases h2; go_meet)
                        | (rename_i d1 h1 dd d2 h2 de d3 h3; cases h1; cases h2; cases h3; go_meet)
                      exact ⟨_, _, _, rfl, by have := HBL3.out; have := HL4.out; have := HL5.out;  omega, Below.trans (by exact Below.grown (Below.grown (Gn.below_drew (Below.alloc (Below.alloc (Below.alloc (Below.refl _ _) (by have := HBL3.out; first | omega | (simp; done) | (simp; omega)) _) (by have := HBL3.out; first | omega | (simp; done) | (simp; omega)) _) (by have := HBL3.out; first | omega | (simp; done) | (simp; omega)) _)) HG4.out (by have := HBL3.out; first | omega | (simp; done) | (simp; omega)) (fun k hk => by have e : (wr.heap.size) = k := (by injection hk); have := HBL3.out; omega)) HG5.out (by have := HBL3.out; have := HL4.out; first | omega | (simp; done) | (simp; omega)) (fun k hk => by have e : (wr.heap.size + 1) = k := (by injection hk); have := HBL3.out; have := HL4.out; omega)) (HE6.out _ (by have := HBL3.out; have := HL4.out; have := HL5.out;  omega)), by have := HBL3.out; have := HBE.out; have := HBL3.out; have := HL4.out; have := HL5.out; omega, HB6.out,
                          (StrsAt.of_own (l := nsL n) (by simp [nsL]) HO4.out).keep (by have := HS6.out; have := HBL3.out; have := HL4.out; have := HL5.out; omega) (fun r hp hr => by
                            have e : r = wr.heap.size ∨ r = wr.heap.size + 1 + 1 + 1 := by
                              rcases HT4.out with h | h
                              · have e := hp.2; rw [h] at e; simp [Value.ownBlock] at e; left; omega
                              · have e := hp.2; rw [h] at e; simp at e; right; omega
                            have := HBL3.out; have := HBE.out; have := HBL3.out; have := HL4.out; have := HL5.out; 
                            exact ⟨⟨⟨by omega, by omega⟩, by simp [Value.ownBlock]⟩, fun j => Gn.cell_same ((HO6.out _ (by omega)).trans ((HG5.out.block _ (by first | omega | (simp; done) | (simp; omega)) (fun e => by have e : r = (wr.heap.size + 1) := (by injection e); omega)).trans (rfl))) j⟩),
                          (StrsAt.of_own (l := tsL t) (by simp [tsL]) HO5.out).keep (by have := HS6.out; have := HBL3.out; have := HL4.out; have := HL5.out; omega) (fun r hp hr => by
                            have e : r = wr.heap.size + 1 ∨ r = w4.heap.size := by
                              rcases HT5.out with h | h
                              · have e := hp.2; rw [h] at e; simp [Value.ownBlock] at e; left; omega
                              · have e := hp.2; rw [h] at e; simp at e; right; omega
                            have := HBL3.out; have := HBE.out; have := HBL3.out; have := HL4.out; have := HL5.out; 
                            exact ⟨⟨⟨by omega, by omega⟩, by simp [Value.ownBlock]⟩, fun j => Gn.cell_same ((HO6.out _ (by omega)).trans (rfl)) j⟩), PItems.nil _ _ _ _, Below.refl _ _⟩
                  refine AllReadyH.cons rfl (fun K hK => ?_) AllReadyH.nil
                  · go_simp
                    refine hK.out _ _ ((HKW.out _ ((heap_alloc_old _ _ (by have := HBL3.out; first | omega | (simp; done) | (simp; omega))).trans ((heap_alloc_old _ _ (by have := HBL3.out; first | omega | (simp; done) | (simp; omega))).trans (rfl))))) (fun hHeld => ?_)
                    clear hK K
                    try simp only [Act.put, List.setIfInBounds_toArray, List.set_cons_zero, List.set_cons_succ]
                    refine wpAnyH_ready (rs := [6, 7]) (by kernel_rfl) (by simp) ?_
                    refine AllReadyH.cons rfl (fun K hK => ?_) ?_
                    · refine step_append_strs _ (by rfl) (.tmp 148) (.tmp 150) (by rfl) wr.heap.size (.slice (some ⟨wr.heap.size, 0, none⟩) 0 0) 0 [] (by simp [Act.eval]) (own_empty (by exact (heap_alloc_old _ _ (by have := HBL3.out; first | omega | (simp; done) | (simp; omega))).trans (heap_new _ _ _ (by first | rfl | simp))) (by have := HBL3.out; omega)) _ (nsL n) va (by simp [Act.eval]) (HA3.out.names.under (by exact Gn.below_drew (Below.alloc (Below.alloc (Below.refl _ _) (by have := HBL3.out; first | omega | (simp; done) | (simp; omega)) _) (by have := HBL3.out; first | omega | (simp; done) | (simp; omega)) _))) (by simp [nsL]; omega) (by have := HBL3.out; first | omega | (simp; done) | (simp; omega)) ?_
                      intro v4 w4 hown4 hgrow4 hat4
                      rw [show 0 + (nsL n).length = n by simp [nsL]] at hown4
                      obtain ⟨A4, c4, rfl⟩ := Gn.slice_of hown4
                      have hl4 := hgrow4.size
                      try simp at hl4
                      have HL4 := Lib.hid hl4
                      have HO4 := Lib.hid hown4
                      have HG4 := Lib.hid hgrow4
                      have HT4 := Lib.hid hat4
                      clear hown4 hgrow4 hat4 hl4
                      refine hK.out _ _ ((HKW.out _ ((HG4.out.block _ (by have := HBL3.out; first | omega | (simp; done) | (simp; omega)) (fun e => by have e : (B) = (wr.heap.size) := (by injection e); have := HBL3.out; omega)).trans ((heap_alloc_old _ _ (by have := HBL3.out; first | omega | (simp; done) | (simp; omega))).trans ((heap_alloc_old _ _ (by have := HBL3.out; first | omega | (simp; done) | (simp; omega))).trans (rfl)))))) (fun hHeld => ?_)
                      clear hK K
                      try simp only [Act.put, List.setIfInBounds_toArray, List.set_cons_zero, List.set_cons_succ]
                      refine wpAnyH_ready (rs := [7]) (by kernel_rfl) (by simp) ?_
                      refine AllReadyH.cons rfl (fun K hK => ?_) AllReadyH.nil
                      go_simp
                      refine hK.out _ _ ((HKW.out _ ((heap_alloc_old _ _ (by have := HBL3.out; have := HL4.out; first | omega | (simp; done) | (simp; omega))).trans ((HG4.out.block _ (by have := HBL3.out; first | omega | (simp; done) | (simp; omega)) (fun e => by have e : (B) = (wr.heap.size) := (by injection e); have := HBL3.out; omega)).trans ((heap_alloc_old _ _ (by have := HBL3.out; first | omega | (simp; done) | (simp; omega))).trans ((heap_alloc_old _ _ (by have := HBL3.out; first | omega | (simp; done) | (simp; omega))).trans (rfl))))))) (fun hHeld => ?_)
                      clear hK K
                      try simp only [Act.put, List.setIfInBounds_toArray, List.set_cons_zero, List.set_cons_succ]
                      refine wpAnyH_ready (rs := [10]) (by kernel_rfl) (by simp) ?_
                      refine AllReadyH.cons rfl (fun K hK => ?_) AllReadyH.nil
                      refine step_append_strs _ (by rfl) (.tmp 152) (.tmp 154) (by rfl) wr.heap.size (.slice (some ⟨w4.heap.size, 0, none⟩) 0 0) 0 [] (by simp [Act.eval]) (own_empty (by exact heap_new _ _ _ (by first | rfl | simp)) (by have := HBL3.out; have := HL4.out; omega)) _ (tsL t) vb (by simp [Act.eval]) (HA3.out.terms.under (by exact Below.alloc (Below.grown (Gn.below_drew (Below.alloc (Below.alloc (Below.refl _ _) (by have := HBL3.out; first | omega | (simp; done) | (simp; omega)) _) (by have := HBL3.out; first | omega | (simp; done) | (simp; omega)) _)) HG4.out (by have := HBL3.out; first | omega | (simp; done) | (simp; omega)) (fun k hk => by have e : (wr.heap.size) = k := (by injection hk); have := HBL3.out; omega)) (by have := HBL3.out; have := HL4.out; first | omega | (simp; done) | (simp; omega)) _)) (by simp [tsL]; omega) (by have := HBL3.out; have := HL4.out; first | omega | (simp; done) | (simp; omega)) ?_
                      intro v5 w5 hown5 hgrow5 hat5
                      rw [show 0 + (tsL t).length = t by simp [tsL]] at hown5
                      obtain ⟨A5, c5, rfl⟩ := Gn.slice_of hown5
                      have hl5 := hgrow5.size
                      try simp at hl5
                      have HL5 := Lib.hid hl5
                      have HO5 := Lib.hid hown5
                      have HG5 := Lib.hid hgrow5
                      have HT5 := Lib.hid hat5
                      clear hown5 hgrow5 hat5 hl5
                      refine hK.out _ _ ((HKW.out _ ((HG5.out.block _ (by have := HBL3.out; have := HL4.out; first | omega | (simp; done) | (simp; omega)) (fun e => by have e : (B) = (w4.heap.size) := (by injection e); have := HBL3.out; have := HL4.out; omega)).trans ((heap_alloc_old _ _ (by have := HBL3.out; have := HL4.out; first | omega | (simp; done) | (simp; omega))).trans ((HG4.out.block _ (by have := HBL3.out; first | omega | (simp; done) | (simp; omega)) (fun e => by have e : (B) = (wr.heap.size) := (by injection e); have := HBL3.out; omega)).trans ((heap_alloc_old _ _ (by have := HBL3.out; first | omega | (simp; done) | (simp; omega))).trans ((heap_alloc_old _ _ (by have := HBL3.out; first | omega | (simp; done) | (simp; omega))).trans (rfl)))))))) (fun hHeld => ?_)
                      clear hK K
                      try simp only [Act.put, List.setIfInBounds_toArray, List.set_cons_zero, List.set_cons_succ]
                      refine wpAnyH_take (i := 11) (v := ?_) rfl (by kernel_rfl) (by kernel_rfl) (by kernel_rfl) (fun _ _ _ h => h) (Or.inl ⟨by rfl, ?_⟩) (by assumption) ?_
                      rotate_left
                      · intro w hSw
                        try dsimp only at hSw
                        go_simp
                        try with_reducible rfl
                      try simp only [Act.put, List.setIfInBounds_toArray, List.set_cons_zero, List.set_cons_succ]
                      refine wpAnyH_ready (rs := [13]) (by kernel_rfl) (by simp) ?_
                      refine AllReadyH.cons rfl (fun K hK => ?_) AllReadyH.nil
                      refine step_store_box _ (by rfl) 31 (.tmp 13) (.tmp 156) (by rfl) (wr.heap.size + 1) (.int .i64 st) (.int .i64 n) (.slice A4 n c4) (.slice A5 t c5) (.slice none 0 0) _ _ _ _ _ _ (by simp [Act.eval]) (by simp [Act.eval]) ((HG5.out.block _ (by have := HBL3.out; have := HL4.out; first | omega | (simp; done) | (simp; omega)) (fun e => by have e : (wr.heap.size + 1) = (w4.heap.size) := (by injection e); have := HBL3.out; have := HL4.out; omega)).trans ((heap_alloc_old _ _ (by have := HBL3.out; have := HL4.out; first | omega | (simp; done) | (simp; omega))).trans ((HG4.out.block _ (by have := HBL3.out; first | omega | (simp; done) | (simp; omega)) (fun e => by have e : (wr.heap.size + 1) = (wr.heap.size) := (by injection e); have := HBL3.out; omega)).trans (heap_new _ _ _ (by first | rfl | simp))))) (by kernel_rfl) (by simp [Value.oneCell']) ?_
                      intro w6 hbx6 hoth6 hbel6 hsz6
                      try simp at hsz6
                      have HB6 := Lib.hid hbx6
                      have HO6 := Lib.hid hoth6
                      have HE6 := Lib.hid hbel6
                      have HS6 := Lib.hid hsz6
                      clear hbx6 hoth6 hbel6 hsz6
                      refine hK.out _ _ ((HKW.out _ ((HO6.out _ (by have := HBL3.out; have := HBL3.out; have := HL4.out; have := HL5.out; omega)).trans ((HG5.out.block _ (by have := HBL3.out; have := HL4.out; first | omega | (simp; done) | (simp; omega)) (fun e => by have e : (B) = (w4.heap.size) := (by injection e); have := HBL3.out; have := HL4.out; omega)).trans ((heap_alloc_old _ _ (by have := HBL3.out; have := HL4.out; first | omega | (simp; done) | (simp; omega))).trans ((HG4.out.block _ (by have := HBL3.out; first | omega | (simp; done) | (simp; omega)) (fun e => by have e : (B) = (wr.heap.size) := (by injection e); have := HBL3.out; omega)).trans ((heap_alloc_old _ _ (by have := HBL3.out; first | omega | (simp; done) | (simp; omega))).trans ((heap_alloc_old _ _ (by have := HBL3.out; first | omega | (simp; done) | (simp; omega))).trans (rfl))))))))) (fun hHeld => ?_)
                      clear hK K
                      try simp only [Act.put, List.setIfInBounds_toArray, List.set_cons_zero, List.set_cons_succ]
                      refine wpAnyH_done (by kernel_rfl) ?_ _
                      refine NoPanic.normal ?_
                      go_wp2_with fail
                      first
                        | go_meet
                        | (rename_i d1 h1; cases h1; go_meet)
                        | (rename_i d1 h1 dd d2 h2; cases h1; cases h2; go_meet)
                        | (rename_i d1 h1 dd d2 h2 de d3 h3; cases h1; cases h2; cases h3; go_meet)
                      exact ⟨_, _, _, rfl, by have := HBL3.out; have := HL4.out; have := HL5.out;  omega, Below.trans (by exact Below.grown (Below.alloc (Below.grown (Gn.below_drew (Below.alloc (Below.alloc (Below.refl _ _) (by have := HBL3.out; first | omega | (simp; done) | (simp; omega)) _) (by have := HBL3.out; first | omega | (simp; done) | (simp; omega)) _)) HG4.out (by have := HBL3.out; first | omega | (simp; done) | (simp; omega)) (fun k hk => by have e : (wr.heap.size) = k := (by injection hk); have := HBL3.out; omega)) (by have := HBL3.out; have := HL4.out; first | omega | (simp; done) | (simp; omega)) _) HG5.out (by have := HBL3.out; have := HL4.out; first | omega | (simp; done) | (simp; omega)) (fun k hk => by have e : (w4.heap.size) = k := (by injection hk); have := HBL3.out; have := HL4.out; omega)) (HE6.out _ (by have := HBL3.out; have := HL4.out; have := HL5.out;  omega)), by have := HBL3.out; have := HBE.out; have := HBL3.out; have := HL4.out; have := HL5.out; omega, HB6.out,
                          (StrsAt.of_own (l := nsL n) (by simp [nsL]) HO4.out).keep (by have := HS6.out; have := HBL3.out; have := HL4.out; have := HL5.out; omega) (fun r hp hr => by
                            have e : r = wr.heap.size ∨ r = wr.heap.size + 1 + 1 := by
                              rcases HT4.out with h | h
                              · have e := hp.2; rw [h] at e; simp [Value.ownBlock] at e; left; omega
                              · have e := hp.2; rw [h] at e; simp at e; right; omega
                            have := HBL3.out; have := HBE.out; have := HBL3.out; have := HL4.out; have := HL5.out; 
                            exact ⟨⟨⟨by omega, by omega⟩, by simp [Value.ownBlock]⟩, fun j => Gn.cell_same ((HO6.out _ (by omega)).trans ((HG5.out.block _ (by first | omega | (simp; done) | (simp; omega)) (fun e => by have e : r = (w4.heap.size) := (by injection e); omega)).trans ((heap_alloc_old _ _ (by first | omega | (simp; done) | (simp; omega))).trans (rfl)))) j⟩),
                          (StrsAt.of_own (l := tsL t) (by simp [tsL]) HO5.out).keep (by have := HS6.out; have := HBL3.out; have := HL4.out; have := HL5.out; omega) (fun r hp hr => by
                            have e : r = w4.heap.size ∨ r = w4.heap.size + 1 := by
                              rcases HT5.out with h | h
                              · have e := hp.2; rw [h] at e; simp [Value.ownBlock] at e; left; omega
                              · have e := hp.2; rw [h] at e; simp at e; right; omega
                            have := HBL3.out; have := HBE.out; have := HBL3.out; have := HL4.out; have := HL5.out; 
                            exact ⟨⟨⟨by omega, by omega⟩, by simp [Value.ownBlock]⟩, fun j => Gn.cell_same ((HO6.out _ (by omega)).trans (rfl)) j⟩), PItems.nil _ _ _ _, Below.refl _ _⟩
                    refine AllReadyH.cons rfl (fun K hK => ?_) AllReadyH.nil
                    · go_simp
                      refine hK.out _ _ ((HKW.out _ ((heap_alloc_old _ _ (by have := HBL3.out; first | omega | (simp; done) | (simp; omega))).trans ((heap_alloc_old _ _ (by have := HBL3.out; first | omega | (simp; done) | (simp; omega))).trans ((heap_alloc_old _ _ (by have := HBL3.out; first | omega | (simp; done) | (simp; omega))).trans (rfl)))))) (fun hHeld => ?_)
                      clear hK K
                      try simp only [Act.put, List.setIfInBounds_toArray, List.set_cons_zero, List.set_cons_succ]
                      refine wpAnyH_ready (rs := [6]) (by kernel_rfl) (by simp) ?_
                      refine AllReadyH.cons rfl (fun K hK => ?_) AllReadyH.nil
                      refine step_append_strs _ (by rfl) (.tmp 148) (.tmp 150) (by rfl) wr.heap.size (.slice (some ⟨wr.heap.size, 0, none⟩) 0 0) 0 [] (by simp [Act.eval]) (own_empty (by exact (heap_alloc_old _ _ (by have := HBL3.out; first | omega | (simp; done) | (simp; omega))).trans ((heap_alloc_old _ _ (by have := HBL3.out; first | omega | (simp; done) | (simp; omega))).trans (heap_new _ _ _ (by first | rfl | simp)))) (by have := HBL3.out; omega)) _ (nsL n) va (by simp [Act.eval]) (HA3.out.names.under (by exact Gn.below_drew (Below.alloc (Below.alloc (Below.alloc (Below.refl _ _) (by have := HBL3.out; first | omega | (simp; done) | (simp; omega)) _) (by have := HBL3.out; first | omega | (simp; done) | (simp; omega)) _) (by have := HBL3.out; first | omega | (simp; done) | (simp; omega)) _))) (by simp [nsL]; omega) (by have := HBL3.out; first | omega | (simp; done) | (simp; omega)) ?_
                      intro v4 w4 hown4 hgrow4 hat4
                      rw [show 0 + (nsL n).length = n by simp [nsL]] at hown4
                      obtain ⟨A4, c4, rfl⟩ := Gn.slice_of hown4
                      have hl4 := hgrow4.size
                      try simp at hl4
                      have HL4 := Lib.hid hl4
                      have HO4 := Lib.hid hown4
                      have HG4 := Lib.hid hgrow4
                      have HT4 := Lib.hid hat4
                      clear hown4 hgrow4 hat4 hl4
                      refine hK.out _ _ ((HKW.out _ ((HG4.out.block _ (by have := HBL3.out; first | omega | (simp; done) | (simp; omega)) (fun e => by have e : (B) = (wr.heap.size) := (by injection e); have := HBL3.out; omega)).trans ((heap_alloc_old _ _ (by have := HBL3.out; first | omega | (simp; done) | (simp; omega))).trans ((heap_alloc_old _ _ (by have := HBL3.out; first | omega | (simp; done) | (simp; omega))).trans ((heap_alloc_old _ _ (by have := HBL3.out; first | omega | (simp; done) | (simp; omega))).trans (rfl))))))) (fun hHeld => ?_)
                      clear hK K
                      try simp only [Act.put, List.setIfInBounds_toArray, List.set_cons_zero, List.set_cons_succ]
                      refine wpAnyH_ready (rs := [10]) (by kernel_rfl) (by simp) ?_
                      refine AllReadyH.cons rfl (fun K hK => ?_) AllReadyH.nil
                      refine step_append_strs _ (by rfl) (.tmp 152) (.tmp 154) (by rfl) wr.heap.size (.slice (some ⟨wr.heap.size + 1 + 1, 0, none⟩) 0 0) 0 [] (by simp [Act.eval]) (own_empty (by exact (HG4.out.block _ (by have := HBL3.out; first | omega | (simp; done) | (simp; omega)) (fun e => by have e : (wr.heap.size + 1 + 1) = (wr.heap.size) := (by injection e); have := HBL3.out; omega)).trans (heap_new _ _ _ (by first | rfl | simp))) (by have := HBL3.out; have := HL4.out; omega)) _ (tsL t) vb (by simp [Act.eval]) (HA3.out.terms.under (by exact Below.grown (Gn.below_drew (Below.alloc (Below.alloc (Below.alloc (Below.refl _ _) (by have := HBL3.out; first | omega | (simp; done) | (simp; omega)) _) (by have := HBL3.out; first | omega | (simp; done) | (simp; omega)) _) (by have := HBL3.out; first | omega | (simp; done) | (simp; omega)) _)) HG4.out (by have := HBL3.out; first | omega | (simp; done) | (simp; omega)) (fun k hk => by have e : (wr.heap.size) = k := (by injection hk); have := HBL3.out; omega))) (by simp [tsL]; omega) (by have := HBL3.out; have := HL4.out; first | omega | (simp; done) | (simp; omega)) ?_
                      intro v5 w5 hown5 hgrow5 hat5
                      rw [show 0 + (tsL t).length = t by simp [tsL]] at hown5
                      obtain ⟨A5, c5, rfl⟩ := Gn.slice_of hown5
                      have hl5 := hgrow5.size
                      try simp at hl5
                      have HL5 := Lib.hid hl5
                      have HO5 := Lib.hid hown5
                      have HG5 := Lib.hid hgrow5
                      have HT5 := Lib.hid hat5
                      clear hown5 hgrow5 hat5 hl5
                      refine hK.out _ _ ((HKW.out _ ((HG5.out.block _ (by have := HBL3.out; have := HL4.out; first | omega | (simp; done) | (simp; omega)) (fun e => by have e : (B) = (wr.heap.size + 1 + 1) := (by injection e); have := HBL3.out; have := HL4.out; omega)).trans ((HG4.out.block _ (by have := HBL3.out; first | omega | (simp; done) | (simp; omega)) (fun e => by have e : (B) = (wr.heap.size) := (by injection e); have := HBL3.out; omega)).trans ((heap_alloc_old _ _ (by have := HBL3.out; first | omega | (simp; done) | (simp; omega))).trans ((heap_alloc_old _ _ (by have := HBL3.out; first | omega | (simp; done) | (simp; omega))).trans ((heap_alloc_old _ _ (by have := HBL3.out; first | omega | (simp; done) | (simp; omega))).trans (rfl)))))))) (fun hHeld => ?_)
                      clear hK K
                      try simp only [Act.put, List.setIfInBounds_toArray, List.set_cons_zero, List.set_cons_succ]
                      refine wpAnyH_take (i := 11) (v := ?_) rfl (by kernel_rfl) (by kernel_rfl) (by kernel_rfl) (fun _ _ _ h => h) (Or.inl ⟨by rfl, ?_⟩) (by assumption) ?_
                      rotate_left
                      · intro w hSw
                        try dsimp only at hSw
                        go_simp
                        try with_reducible rfl
                      try simp only [Act.put, List.setIfInBounds_toArray, List.set_cons_zero, List.set_cons_succ]
                      refine wpAnyH_ready (rs := [13]) (by kernel_rfl) (by simp) ?_
                      refine AllReadyH.cons rfl (fun K hK => ?_) AllReadyH.nil
                      refine step_store_box _ (by rfl) 31 (.tmp 13) (.tmp 156) (by rfl) (wr.heap.size + 1) (.int .i64 st) (.int .i64 n) (.slice A4 n c4) (.slice A5 t c5) (.slice none 0 0) _ _ _ _ _ _ (by simp [Act.eval]) (by simp [Act.eval]) ((HG5.out.block _ (by have := HBL3.out; have := HL4.out; first | omega | (simp; done) | (simp; omega)) (fun e => by have e : (wr.heap.size + 1) = (wr.heap.size + 1 + 1) := (by injection e); have := HBL3.out; have := HL4.out; omega)).trans ((HG4.out.block _ (by have := HBL3.out; first | omega | (simp; done) | (simp; omega)) (fun e => by have e : (wr.heap.size + 1) = (wr.heap.size) := (by injection e); have := HBL3.out; omega)).trans ((heap_alloc_old _ _ (by have := HBL3.out; first | omega | (simp; done) | (simp; omega))).trans (heap_new _ _ _ (by first | rfl | simp))))) (by kernel_rfl) (by simp [Value.oneCell']) ?_
                      intro w6 hbx6 hoth6 hbel6 hsz6
                      try simp at hsz6
                      have HB6 := Lib.hid hbx6
                      have HO6 := Lib.hid hoth6
                      have HE6 := Lib.hid hbel6
                      have HS6 := Lib.hid hsz6
                      clear hbx6 hoth6 hbel6 hsz6
                      refine hK.out _ _ ((HKW.out _ ((HO6.out _ (by have := HBL3.out; have := HBL3.out; have := HL4.out; have := HL5.out; omega)).trans ((HG5.out.block _ (by have := HBL3.out; have := HL4.out; first | omega | (simp; done) | (simp; omega)) (fun e => by have e : (B) = (wr.heap.size + 1 + 1) := (by injection e); have := HBL3.out; have := HL4.out; omega)).trans ((HG4.out.block _ (by have := HBL3.out; first | omega | (simp; done) | (simp; omega)) (fun e => by have e : (B) = (wr.heap.size) := (by injection e); have := HBL3.out; omega)).trans ((heap_alloc_old _ _ (by have := HBL3.out; first | omega | (simp; done) | (simp; omega))).trans ((heap_alloc_old _ _ (by have := HBL3.out; first | omega | (simp; done) | (simp; omega))).trans ((heap_alloc_old _ _ (by have := HBL3.out; first | omega | (simp; done) | (simp; omega))).trans (rfl))))))))) (fun hHeld => ?_)
                      clear hK K
                      try simp only [Act.put, List.setIfInBounds_toArray, List.set_cons_zero, List.set_cons_succ]
                      refine wpAnyH_done (by kernel_rfl) ?_ _
                      refine NoPanic.normal ?_
                      go_wp2_with fail
                      first
                        | go_meet
                        | (rename_i d1 h1; cases h1; go_meet)
                        | (rename_i d1 h1 dd d2 h2; cases h1; cases h2; go_meet)
                        | (rename_i d1 h1 dd d2 h2 de d3 h3; cases h1; cases h2; cases h3; go_meet)
                      exact ⟨_, _, _, rfl, by have := HBL3.out; have := HL4.out; have := HL5.out;  omega, Below.trans (by exact Below.grown (Below.grown (Gn.below_drew (Below.alloc (Below.alloc (Below.alloc (Below.refl _ _) (by have := HBL3.out; first | omega | (simp; done) | (simp; omega)) _) (by have := HBL3.out; first | omega | (simp; done) | (simp; omega)) _) (by have := HBL3.out; first | omega | (simp; done) | (simp; omega)) _)) HG4.out (by have := HBL3.out; first | omega | (simp; done) | (simp; omega)) (fun k hk => by have e : (wr.heap.size) = k := (by injection hk); have := HBL3.out; omega)) HG5.out (by have := HBL3.out; have := HL4.out; first | omega | (simp; done) | (simp; omega)) (fun k hk => by have e : (wr.heap.size + 1 + 1) = k := (by injection hk); have := HBL3.out; have := HL4.out; omega)) (HE6.out _ (by have := HBL3.out; have := HL4.out; have := HL5.out;  omega)), by have := HBL3.out; have := HBE.out; have := HBL3.out; have := HL4.out; have := HL5.out; omega, HB6.out,
                          (StrsAt.of_own (l := nsL n) (by simp [nsL]) HO4.out).keep (by have := HS6.out; have := HBL3.out; have := HL4.out; have := HL5.out; omega) (fun r hp hr => by
                            have e : r = wr.heap.size ∨ r = wr.heap.size + 1 + 1 + 1 := by
                              rcases HT4.out with h | h
                              · have e := hp.2; rw [h] at e; simp [Value.ownBlock] at e; left; omega
                              · have e := hp.2; rw [h] at e; simp at e; right; omega
                            have := HBL3.out; have := HBE.out; have := HBL3.out; have := HL4.out; have := HL5.out; 
                            exact ⟨⟨⟨by omega, by omega⟩, by simp [Value.ownBlock]⟩, fun j => Gn.cell_same ((HO6.out _ (by omega)).trans ((HG5.out.block _ (by first | omega | (simp; done) | (simp; omega)) (fun e => by have e : r = (wr.heap.size + 1 + 1) := (by injection e); omega)).trans (rfl))) j⟩),
                          (StrsAt.of_own (l := tsL t) (by simp [tsL]) HO5.out).keep (by have := HS6.out; have := HBL3.out; have := HL4.out; have := HL5.out; omega) (fun r hp hr => by
                            have e : r = wr.heap.size + 1 + 1 ∨ r = w4.heap.size := by
                              rcases HT5.out with h | h
                              · have e := hp.2; rw [h] at e; simp [Value.ownBlock] at e; left; omega
                              · have e := hp.2; rw [h] at e; simp at e; right; omega
                            have := HBL3.out; have := HBE.out; have := HBL3.out; have := HL4.out; have := HL5.out; 
                            exact ⟨⟨⟨by omega, by omega⟩, by simp [Value.ownBlock]⟩, fun j => Gn.cell_same ((HO6.out _ (by omega)).trans (rfl)) j⟩), PItems.nil _ _ _ _, Below.refl _ _⟩
                refine AllReadyH.cons rfl (fun K hK => ?_) ?_
                · go_simp
                  refine hK.out _ _ ((HKW.out _ ((heap_alloc_old _ _ (by have := HBL3.out; first | omega | (simp; done) | (simp; omega))).trans (rfl)))) (fun hHeld => ?_)
                  clear hK K
                  try simp only [Act.put, List.setIfInBounds_toArray, List.set_cons_zero, List.set_cons_succ]
                  refine wpAnyH_ready (rs := [3, 12]) (by kernel_rfl) (by simp) ?_
                  refine AllReadyH.cons rfl (fun K hK => ?_) ?_
                  · go_simp
                    refine hK.out _ _ ((HKW.out _ ((heap_alloc_old _ _ (by have := HBL3.out; first | omega | (simp; done) | (simp; omega))).trans ((heap_alloc_old _ _ (by have := HBL3.out; first | omega | (simp; done) | (simp; omega))).trans (rfl))))) (fun hHeld => ?_)
                    clear hK K
                    try simp only [Act.put, List.setIfInBounds_toArray, List.set_cons_zero, List.set_cons_succ]
                    refine wpAnyH_ready (rs := [6, 12]) (by kernel_rfl) (by simp) ?_
                    refine AllReadyH.cons rfl (fun K hK => ?_) ?_
                    · refine step_append_strs _ (by rfl) (.tmp 148) (.tmp 150) (by rfl) wr.heap.size (.slice (some ⟨wr.heap.size + 1, 0, none⟩) 0 0) 0 [] (by simp [Act.eval]) (own_empty (by exact heap_new _ _ _ (by first | rfl | simp)) (by have := HBL3.out; omega)) _ (nsL n) va (by simp [Act.eval]) (HA3.out.names.under (by exact Gn.below_drew (Below.alloc (Below.alloc (Below.refl _ _) (by have := HBL3.out; first | omega | (simp; done) | (simp; omega)) _) (by have := HBL3.out; first | omega | (simp; done) | (simp; omega)) _))) (by simp [nsL]; omega) (by have := HBL3.out; first | omega | (simp; done) | (simp; omega)) ?_
                      intro v4 w4 hown4 hgrow4 hat4
                      rw [show 0 + (nsL n).length = n by simp [nsL]] at hown4
                      obtain ⟨A4, c4, rfl⟩ := Gn.slice_of hown4
                      have hl4 := hgrow4.size
                      try simp at hl4
                      have HL4 := Lib.hid hl4
                      have HO4 := Lib.hid hown4
                      have HG4 := Lib.hid hgrow4
                      have HT4 := Lib.hid hat4
                      clear hown4 hgrow4 hat4 hl4
                      refine hK.out _ _ ((HKW.out _ ((HG4.out.block _ (by have := HBL3.out; first | omega | (simp; done) | (simp; omega)) (fun e => by have e : (B) = (wr.heap.size + 1) := (by injection e); have := HBL3.out; omega)).trans ((heap_alloc_old _ _ (by have := HBL3.out; first | omega | (simp; done) | (simp; omega))).trans ((heap_alloc_old _ _ (by have := HBL3.out; first | omega | (simp; done) | (simp; omega))).trans (rfl)))))) (fun hHeld => ?_)
                      clear hK K
                      try simp only [Act.put, List.setIfInBounds_toArray, List.set_cons_zero, List.set_cons_succ]
                      refine wpAnyH_ready (rs := [10, 12]) (by kernel_rfl) (by simp) ?_
                      refine AllReadyH.cons rfl (fun K hK => ?_) ?_
                      · refine step_append_strs _ (by rfl) (.tmp 152) (.tmp 154) (by rfl) wr.heap.size (.slice (some ⟨wr.heap.size, 0, none⟩) 0 0) 0 [] (by simp [Act.eval]) (own_empty (by exact (HG4.out.block _ (by have := HBL3.out; first | omega | (simp; done) | (simp; omega)) (fun e => by have e : (wr.heap.size) = (wr.heap.size + 1) := (by injection e); have := HBL3.out; omega)).trans ((heap_alloc_old _ _ (by have := HBL3.out; first | omega | (simp; done) | (simp; omega))).trans (heap_new _ _ _ (by first | rfl | simp)))) (by have := HBL3.out; have := HL4.out; omega)) _ (tsL t) vb (by simp [Act.eval]) (HA3.out.terms.under (by exact Below.grown (Gn.below_drew (Below.alloc (Below.alloc (Below.refl _ _) (by have := HBL3.out; first | omega | (simp; done) | (simp; omega)) _) (by have := HBL3.out; first | omega | (simp; done) | (simp; omega)) _)) HG4.out (by have := HBL3.out; first | omega | (simp; done) | (simp; omega)) (fun k hk => by have e : (wr.heap.size + 1) = k := (by injection hk); have := HBL3.out; omega))) (by simp [tsL]; omega) (by have := HBL3.out; have := HL4.out; first | omega | (simp; done) | (simp; omega)) ?_
                        intro v5 w5 hown5 hgrow5 hat5
                        rw [show 0 + (tsL t).length = t by simp [tsL]] at hown5
                        obtain ⟨A5, c5, rfl⟩ := Gn.slice_of hown5
                        have hl5 := hgrow5.size
                        try simp at hl5
                        have HL5 := Lib.hid hl5
                        have HO5 := Lib.hid hown5
                        have HG5 := Lib.hid hgrow5
                        have HT5 := Lib.hid hat5
                        clear hown5 hgrow5 hat5 hl5
                        refine hK.out _ _ ((HKW.out _ ((HG5.out.block _ (by have := HBL3.out; have := HL4.out; first | omega | (simp; done) | (simp; omega)) (fun e => by have e : (B) = (wr.heap.size) := (by injection e); have := HBL3.out; have := HL4.out; omega)).trans ((HG4.out.block _ (by have := HBL3.out; first | omega | (simp; done) | (simp; omega)) (fun e => by have e : (B) = (wr.heap.size + 1) := (by injection e); have := HBL3.out; omega)).trans ((heap_alloc_old _ _ (by have := HBL3.out; first | omega | (simp; done) | (simp; omega))).trans ((heap_alloc_old _ _ (by have := HBL3.out; first | omega | (simp; done) | (simp; omega))).trans (rfl))))))) (fun hHeld => ?_)
                        clear hK K
                        try simp only [Act.put, List.setIfInBounds_toArray, List.set_cons_zero, List.set_cons_succ]
                        refine wpAnyH_take (i := 11) (v := ?_) rfl (by kernel_rfl) (by kernel_rfl) (by kernel_rfl) (fun _ _ _ h => h) (Or.inl ⟨by rfl, ?_⟩) (by assumption) ?_
                        rotate_left
                        · intro w hSw
                          try dsimp only at hSw
                          go_simp
                          try with_reducible rfl
                        try simp only [Act.put, List.setIfInBounds_toArray, List.set_cons_zero, List.set_cons_succ]
                        refine wpAnyH_ready (rs := [12]) (by kernel_rfl) (by simp) ?_
                        refine AllReadyH.cons rfl (fun K hK => ?_) AllReadyH.nil
                        go_simp
                        refine hK.out _ _ ((HKW.out _ ((heap_alloc_old _ _ (by have := HBL3.out; have := HL4.out; have := HL5.out; first | omega | (simp; done) | (simp; omega))).trans ((HG5.out.block _ (by have := HBL3.out; have := HL4.out; first | omega | (simp; done) | (simp; omega)) (fun e => by have e : (B) = (wr.heap.size) := (by injection e); have := HBL3.out; have := HL4.out; omega)).trans ((HG4.out.block _ (by have := HBL3.out; first | omega | (simp; done) | (simp; omega)) (fun e => by have e : (B) = (wr.heap.size + 1) := (by injection e); have := HBL3.out; omega)).trans ((heap_alloc_old _ _ (by have := HBL3.out; first | omega | (simp; done) | (simp; omega))).trans ((heap_alloc_old _ _ (by have := HBL3.out; first | omega | (simp; done) | (simp; omega))).trans (rfl)))))))) (fun hHeld => ?_)
                        clear hK K
                        try simp only [Act.put, List.setIfInBounds_toArray, List.set_cons_zero, List.set_cons_succ]
                        refine wpAnyH_ready (rs := [13]) (by kernel_rfl) (by simp) ?_
                        refine AllReadyH.cons rfl (fun K hK => ?_) AllReadyH.nil
                        refine step_store_box _ (by rfl) 31 (.tmp 13) (.tmp 156) (by rfl) (w5.heap.size) (.int .i64 st) (.int .i64 n) (.slice A4 n c4) (.slice A5 t c5) (.slice none 0 0) _ _ _ _ _ _ (by simp [Act.eval]) (by simp [Act.eval]) (heap_new _ _ _ (by first | rfl | simp)) (by kernel_rfl) (by simp [Value.oneCell']) ?_
                        intro w6 hbx6 hoth6 hbel6 hsz6
                        try simp at hsz6
                        have HB6 := Lib.hid hbx6
                        have HO6 := Lib.hid hoth6
                        have HE6 := Lib.hid hbel6
                        have HS6 := Lib.hid hsz6
                        clear hbx6 hoth6 hbel6 hsz6
                        refine hK.out _ _ ((HKW.out _ ((HO6.out _ (by have := HBL3.out; have := HBL3.out; have := HL4.out; have := HL5.out; omega)).trans ((heap_alloc_old _ _ (by have := HBL3.out; have := HL4.out; have := HL5.out; first | omega | (simp; done) | (simp; omega))).trans ((HG5.out.block _ (by have := HBL3.out; have := HL4.out; first | omega | (simp; done) | (simp; omega)) (fun e => by have e : (B) = (wr.heap.size) := (by injection e); have := HBL3.out; have := HL4.out; omega)).trans ((HG4.out.block _ (by have := HBL3.out; first | omega | (simp; done) | (simp; omega)) (fun e => by have e : (B) = (wr.heap.size + 1) := (by injection e); have := HBL3.out; omega)).trans ((heap_alloc_old _ _ (by have := HBL3.out; first | omega | (simp; done) | (simp; omega))).trans ((heap_alloc_old _ _ (by have := HBL3.out; first | omega | (simp; done) | (simp; omega))).trans (rfl))))))))) (fun hHeld => ?_)
                        clear hK K
                        try simp only [Act.put, List.setIfInBounds_toArray, List.set_cons_zero, List.set_cons_succ]
                        refine wpAnyH_done (by kernel_rfl) ?_ _
                        refine NoPanic.normal ?_
                        go_wp2_with fail
                        first
                          | go_meet
                          | (rename_i d1 h1; cases h1; go_meet)
                          | (rename_i d1 h1 dd d2 h2; cases h1; cases h2; go_meet)
                          | (rename_i d1 h1 dd d2 h2 de d3 h3; cases h1; cases h2; cases h3; go_meet)
                        exact ⟨_, _, _, rfl, by have := HBL3.out; have := HL4.out; have := HL5.out;  omega, Below.trans (by exact Below.alloc (Below.grown (Below.grown (Gn.below_drew (Below.alloc (Below.alloc (Below.refl _ _) (by have := HBL3.out; first | omega | (simp; done) | (simp; omega)) _) (by have := HBL3.out; first | omega | (simp; done) | (simp; omega)) _)) HG4.out (by have := HBL3.out; first | omega | (simp; done) | (simp; omega)) (fun k hk => by have e : (wr.heap.size + 1) = k := (by injection hk); have := HBL3.out; omega)) HG5.out (by have := HBL3.out; have := HL4.out; first | omega | (simp; done) | (simp; omega)) (fun k hk => by have e : (wr.heap.size) = k := (by injection hk); have := HBL3.out; have := HL4.out; omega)) (by have := HBL3.out; have := HL4.out; have := HL5.out; first | omega | (simp; done) | (simp; omega)) _) (HE6.out _ (by have := HBL3.out; have := HL4.out; have := HL5.out;  omega)), by have := HBL3.out; have := HBE.out; have := HBL3.out; have := HL4.out; have := HL5.out; omega, HB6.out,
                            (StrsAt.of_own (l := nsL n) (by simp [nsL]) HO4.out).keep (by have := HS6.out; have := HBL3.out; have := HL4.out; have := HL5.out; omega) (fun r hp hr => by
                              have e : r = wr.heap.size + 1 ∨ r = wr.heap.size + 1 + 1 := by
                                rcases HT4.out with h | h
                                · have e := hp.2; rw [h] at e; simp [Value.ownBlock] at e; left; omega
                                · have e := hp.2; rw [h] at e; simp at e; right; omega
                              have := HBL3.out; have := HBE.out; have := HBL3.out; have := HL4.out; have := HL5.out; 
                              exact ⟨⟨⟨by omega, by omega⟩, by simp [Value.ownBlock]⟩, fun j => Gn.cell_same ((HO6.out _ (by omega)).trans ((heap_alloc_old _ _ (by first | omega | (simp; done) | (simp; omega))).trans ((HG5.out.block _ (by first | omega | (simp; done) | (simp; omega)) (fun e => by have e : r = (wr.heap.size) := (by injection e); omega)).trans (rfl)))) j⟩),
                            (StrsAt.of_own (l := tsL t) (by simp [tsL]) HO5.out).keep (by have := HS6.out; have := HBL3.out; have := HL4.out; have := HL5.out; omega) (fun r hp hr => by
                              have e : r = wr.heap.size ∨ r = w4.heap.size := by
                                rcases HT5.out with h | h
                                · have e := hp.2; rw [h] at e; simp [Value.ownBlock] at e; left; omega
                                · have e := hp.2; rw [h] at e; simp at e; right; omega
                              have := HBL3.out; have := HBE.out; have := HBL3.out; have := HL4.out; have := HL5.out; 
                              exact ⟨⟨⟨by omega, by omega⟩, by simp [Value.ownBlock]⟩, fun j => Gn.cell_same ((HO6.out _ (by omega)).trans ((heap_alloc_old _ _ (by first | omega | (simp; done) | (simp; omega))).trans (rfl))) j⟩), PItems.nil _ _ _ _, Below.refl _ _⟩
                      refine AllReadyH.cons rfl (fun K hK => ?_) AllReadyH.nil
                      · go_simp
                        refine hK.out _ _ ((HKW.out _ ((heap_alloc_old _ _ (by have := HBL3.out; have := HL4.out; first | omega | (simp; done) | (simp; omega))).trans ((HG4.out.block _ (by have := HBL3.out; first | omega | (simp; done) | (simp; omega)) (fun e => by have e : (B) = (wr.heap.size + 1) := (by injection e); have := HBL3.out; omega)).trans ((heap_alloc_old _ _ (by have := HBL3.out; first | omega | (simp; done) | (simp; omega))).trans ((heap_alloc_old _ _ (by have := HBL3.out; first | omega | (simp; done) | (simp; omega))).trans (rfl))))))) (fun hHeld => ?_)
                        clear hK K
                        try simp only [Act.put, List.setIfInBounds_toArray, List.set_cons_zero, List.set_cons_succ]
                        refine wpAnyH_ready (rs := [10]) (by kernel_rfl) (by simp) ?_
                        refine AllReadyH.cons rfl (fun K hK => ?_) AllReadyH.nil
                        refine step_append_strs _ (by rfl) (.tmp 152) (.tmp 154) (by rfl) wr.heap.size (.slice (some ⟨wr.heap.size, 0, none⟩) 0 0) 0 [] (by simp [Act.eval]) (own_empty (by exact (heap_alloc_old _ _ (by have := HBL3.out; have := HL4.out; first | omega | (simp; done) | (simp; omega))).trans ((HG4.out.block _ (by have := HBL3.out; first | omega | (simp; done) | (simp; omega)) (fun e => by have e : (wr.heap.size) = (wr.heap.size + 1) := (by injection e); have := HBL3.out; omega)).trans ((heap_alloc_old _ _ (by have := HBL3.out; first | omega | (simp; done) | (simp; omega))).trans (heap_new _ _ _ (by first | rfl | simp))))) (by have := HBL3.out; have := HL4.out; omega)) _ (tsL t) vb (by simp [Act.eval]) (HA3.out.terms.under (by exact Below.alloc (Below.grown (Gn.below_drew (Below.alloc (Below.alloc (Below.refl _ _) (by have := HBL3.out; first | omega | (simp; done) | (simp; omega)) _) (by have := HBL3.out; first | omega | (simp; done) | (simp; omega)) _)) HG4.out (by have := HBL3.out; first | omega | (simp; done) | (simp; omega)) (fun k hk => by have e : (wr.heap.size + 1) = k := (by injection hk); have := HBL3.out; omega)) (by have := HBL3.out; have := HL4.out; first | omega | (simp; done) | (simp; omega)) _)) (by simp [tsL]; omega) (by have := HBL3.out; have := HL4.out; first | omega | (simp; done) | (simp; omega)) ?_
                        intro v5 w5 hown5 hgrow5 hat5
                        rw [show 0 + (tsL t).length = t by simp [tsL]] at hown5
                        obtain ⟨A5, c5, rfl⟩ := Gn.slice_of hown5
                        have hl5 := hgrow5.size
                        try simp at hl5
                        have HL5 := Lib.hid hl5
                        have HO5 := Lib.hid hown5
                        have HG5 := Lib.hid hgrow5
                        have HT5 := Lib.hid hat5
                        clear hown5 hgrow5 hat5 hl5
                        refine hK.out _ _ ((HKW.out _ ((HG5.out.block _ (by have := HBL3.out; have := HL4.out; first | omega | (simp; done) | (simp; omega)) (fun e => by have e : (B) = (wr.heap.size) := (by injection e); have := HBL3.out; have := HL4.out; omega)).trans ((heap_alloc_old _ _ (by have := HBL3.out; have := HL4.out; first | omega | (simp; done) | (simp; omega))).trans ((HG4.out.block _ (by have := HBL3.out; first | omega | (simp; done) | (simp; omega)) (fun e => by have e : (B) = (wr.heap.size + 1) := (by injection e); have := HBL3.out; omega)).trans ((heap_alloc_old _ _ (by have := HBL3.out; first | omega | (simp; done) | (simp; omega))).trans ((heap_alloc_old _ _ (by have := HBL3.out; first | omega | (simp; done) | (simp; omega))).trans (rfl)))))))) (fun hHeld => ?_)
                        clear hK K
                        try simp only [Act.put, List.setIfInBounds_toArray, List.set_cons_zero, List.set_cons_succ]
                        refine wpAnyH_take (i := 11) (v := ?_) rfl (by kernel_rfl) (by kernel_rfl) (by kernel_rfl) (fun _ _ _ h => h) (Or.inl ⟨by rfl, ?_⟩) (by assumption) ?_
                        rotate_left
                        · intro w hSw
                          try dsimp only at hSw
                          go_simp
                          try with_reducible rfl
                        try simp only [Act.put, List.setIfInBounds_toArray, List.set_cons_zero, List.set_cons_succ]
                        refine wpAnyH_ready (rs := [13]) (by kernel_rfl) (by simp) ?_
                        refine AllReadyH.cons rfl (fun K hK => ?_) AllReadyH.nil
                        refine step_store_box _ (by rfl) 31 (.tmp 13) (.tmp 156) (by rfl) (w4.heap.size) (.int .i64 st) (.int .i64 n) (.slice A4 n c4) (.slice A5 t c5) (.slice none 0 0) _ _ _ _ _ _ (by simp [Act.eval]) (by simp [Act.eval]) ((HG5.out.block _ (by have := HBL3.out; have := HL4.out; first | omega | (simp; done) | (simp; omega)) (fun e => by have e : (w4.heap.size) = (wr.heap.size) := (by injection e); have := HBL3.out; have := HL4.out; omega)).trans (heap_new _ _ _ (by first | rfl | simp))) (by kernel_rfl) (by simp [Value.oneCell']) ?_
                        intro w6 hbx6 hoth6 hbel6 hsz6
                        try simp at hsz6
                        have HB6 := Lib.hid hbx6
                        have HO6 := Lib.hid hoth6
                        have HE6 := Lib.hid hbel6
                        have HS6 := Lib.hid hsz6
                        clear hbx6 hoth6 hbel6 hsz6
                        refine hK.out _ _ ((HKW.out _ ((HO6.out _ (by have := HBL3.out; have := HBL3.out; have := HL4.out; have := HL5.out; omega)).trans ((HG5.out.block _ (by have := HBL3.out; have := HL4.out; first | omega | (simp; done) | (simp; omega)) (fun e => by have e : (B) = (wr.heap.size) := (by injection e); have := HBL3.out; have := HL4.out; omega)).trans ((heap_alloc_old _ _ (by have := HBL3.out; have := HL4.out; first | omega | (simp; done) | (simp; omega))).trans ((HG4.out.block _ (by have := HBL3.out; first | omega | (simp; done) | (simp; omega)) (fun e => by have e : (B) = (wr.heap.size + 1) := (by injection e); have := HBL3.out; omega)).trans ((heap_alloc_old _ _ (by have := HBL3.out; first | omega | (simp; done) | (simp; omega))).trans ((heap_alloc_old _ _ (by have := HBL3.out; first | omega | (simp; done) | (simp; omega))).trans (rfl))))))))) (fun hHeld => ?_)
                        clear hK K
                        try simp only [Act.put, List.setIfInBounds_toArray, List.set_cons_zero, List.set_cons_succ]
                        refine wpAnyH_done (by kernel_rfl) ?_ _
                        refine NoPanic.normal ?_
                        go_wp2_with fail
                        first
                          | go_meet
                          | (rename_i d1 h1; cases h1; go_meet)
                          | (rename_i d1 h1 dd d2 h2; cases h1; cases h2; go_meet)
                          | (rename_i d1 h1 dd d2 h2 de d3 h3; cases h1; cases h2; cases h3; go_meet)
                        exact ⟨_, _, _, rfl, by have := HBL3.out; have := HL4.out; have := HL5.out;  omega, Below.trans (by exact Below.grown (Below.alloc (Below.grown (Gn.below_drew (Below.alloc (Below.alloc (Below.refl _ _) (by have := HBL3.out; first | omega | (simp; done) | (simp; omega)) _) (by have := HBL3.out; first | omega | (simp; done) | (simp; omega)) _)) HG4.out (by have := HBL3.out; first | omega | (simp; done) | (simp; omega)) (fun k hk => by have e : (wr.heap.size + 1) = k := (by injection hk); have := HBL3.out; omega)) (by have := HBL3.out; have := HL4.out; first | omega | (simp; done) | (simp; omega)) _) HG5.out (by have := HBL3.out; have := HL4.out; first | omega | (simp; done) | (simp; omega)) (fun k hk => by have e : (wr.heap.size) = k := (by injection hk); have := HBL3.out; have := HL4.out; omega)) (HE6.out _ (by have := HBL3.out; have := HL4.out; have := HL5.out;  omega)), by have := HBL3.out; have := HBE.out; have := HBL3.out; have := HL4.out; have := HL5.out; omega, HB6.out,
                            (StrsAt.of_own (l := nsL n) (by simp [nsL]) HO4.out).keep (by have := HS6.out; have := HBL3.out; have := HL4.out; have := HL5.out; omega) (fun r hp hr => by
                              have e : r = wr.heap.size + 1 ∨ r = wr.heap.size + 1 + 1 := by
                                rcases HT4.out with h | h
                                · have e := hp.2; rw [h] at e; simp [Value.ownBlock] at e; left; omega
                                · have e := hp.2; rw [h] at e; simp at e; right; omega
                              have := HBL3.out; have := HBE.out; have := HBL3.out; have := HL4.out; have := HL5.out; 
                              exact ⟨⟨⟨by omega, by omega⟩, by simp [Value.ownBlock]⟩, fun j => Gn.cell_same ((HO6.out _ (by omega)).trans ((HG5.out.block _ (by first | omega | (simp; done) | (simp; omega)) (fun e => by have e : r = (wr.heap.size) := (by injection e); omega)).trans ((heap_alloc_old _ _ (by first | omega | (simp; done) | (simp; omega))).trans (rfl)))) j⟩),
                            (StrsAt.of_own (l := tsL t) (by simp [tsL]) HO5.out).keep (by have := HS6.out; have := HBL3.out; have := HL4.out; have := HL5.out; omega) (fun r hp hr => by
                              have e : r = wr.heap.size ∨ r = w4.heap.size + 1 := by
                                rcases HT5.out with h | h
                                · have e := hp.2; rw [h] at e; simp [Value.ownBlock] at e; left; omega
                                · have e := hp.2; rw [h] at e; simp at e; right; omega
                              have := HBL3.out; have := HBE.out; have := HBL3.out; have := HL4.out; have := HL5.out; 
                              exact ⟨⟨⟨by omega, by omega⟩, by simp [Value.ownBlock]⟩, fun j => Gn.cell_same ((HO6.out _ (by omega)).trans (rfl)) j⟩), PItems.nil _ _ _ _, Below.refl _ _⟩
                    refine AllReadyH.cons rfl (fun K hK => ?_) AllReadyH.nil
                    · go_simp
                      refine hK.out _ _ ((HKW.out _ ((heap_alloc_old _ _ (by have := HBL3.out; first | omega | (simp; done) | (simp; omega))).trans ((heap_alloc_old _ _ (by have := HBL3.out; first | omega | (simp; done) | (simp; omega))).trans ((heap_alloc_old _ _ (by have := HBL3.out; first | omega | (simp; done) | (simp; omega))).trans (rfl)))))) (fun hHeld => ?_)
                      clear hK K
                      try simp only [Act.put, List.setIfInBounds_toArray, List.set_cons_zero, List.set_cons_succ]
                      refine wpAnyH_ready (rs := [6]) (by kernel_rfl) (by simp) ?_
                      refine AllReadyH.cons rfl (fun K hK => ?_) AllReadyH.nil
                      refine step_append_strs _ (by rfl) (.tmp 148) (.tmp 150) (by rfl) wr.heap.size (.slice (some ⟨wr.heap.size + 1, 0, none⟩) 0 0) 0 [] (by simp [Act.eval]) (own_empty (by exact (heap_alloc_old _ _ (by have := HBL3.out; first | omega | (simp; done) | (simp; omega))).trans (heap_new _ _ _ (by first | rfl | simp))) (by have := HBL3.out; omega)) _ (nsL n) va (by simp [Act.eval]) (HA3.out.names.under (by exact Gn.below_drew (Below.alloc (Below.alloc (Below.alloc (Below.refl _ _) (by have := HBL3.out; first | omega | (simp; done) | (simp; omega)) _) (by have := HBL3.out; first | omega | (simp; done) | (simp; omega)) _) (by have := HBL3.out; first | omega | (simp; done) | (simp; omega)) _))) (by simp [nsL]; omega) (by have := HBL3.out; first | omega | (simp; done) | (simp; omega)) ?_
                      intro v4 w4 hown4 hgrow4 hat4
                      rw [show 0 + (nsL n).length = n by simp [nsL]] at hown4
                      obtain ⟨A4, c4, rfl⟩ := Gn.slice_of hown4
                      have hl4 := hgrow4.size
                      try simp at hl4
                      have HL4 := Lib.hid hl4
                      have HO4 := Lib.hid hown4
                      have HG4 := Lib.hid hgrow4
                      have HT4 := Lib.hid hat4
                      clear hown4 hgrow4 hat4 hl4
                      refine hK.out _ _ ((HKW.out _ ((HG4.out.block _ (by have := HBL3.out; first | omega | (simp; done) | (simp; omega)) (fun e => by have e : (B) = (wr.heap.size + 1) := (by injection e); have := HBL3.out; omega)).trans ((heap_alloc_old _ _ (by have := HBL3.out; first | omega | (simp; done) | (simp; omega))).trans ((heap_alloc_old _ _ (by have := HBL3.out; first | omega | (simp; done) | (simp; omega))).trans ((heap_alloc_old _ _ (by have := HBL3.out; first | omega | (simp; done) | (simp; omega))).trans (rfl))))))) (fun hHeld => ?_)
                      clear hK K
                      try simp only [Act.put, List.setIfInBounds_toArray, List.set_cons_zero, List.set_cons_succ]
                      refine wpAnyH_ready (rs := [10]) (by kernel_rfl) (by simp) ?_
                      refine AllReadyH.cons rfl (fun K hK => ?_) AllReadyH.nil
                      refine step_append_strs _ (by rfl) (.tmp 152) (.tmp 154) (by rfl) wr.heap.size (.slice (some ⟨wr.heap.size, 0, none⟩) 0 0) 0 [] (by simp [Act.eval]) (own_empty (by exact (HG4.out.block _ (by have := HBL3.out; first | omega | (simp; done) | (simp; omega)) (fun e => by have e : (wr.heap.size) = (wr.heap.size + 1) := (by injection e); have := HBL3.out; omega)).trans ((heap_alloc_old _ _ (by have := HBL3.out; first | omega | (simp; done) | (simp; omega))).trans ((heap_alloc_old _ _ (by have := HBL3.out; first | omega | (simp; done) | (simp; omega))).trans (heap_new _ _ _ (by first | rfl | simp))))) (by have := HBL3.out; have := HL4.out; omega)) _ (tsL t) vb (by simp [Act.eval]) (HA3.out.terms.under (by exact Below.grown (Gn.below_drew (Below.alloc (Below.alloc (Below.alloc (Below.refl _ _) (by have := HBL3.out; first | omega | (simp; done) | (simp; omega)) _) (by have := HBL3.out; first | omega | (simp; done) | (simp; omega)) _) (by have := HBL3.out; first | omega | (simp; done) | (simp; omega)) _)) HG4.out (by have := HBL3.out; first | omega | (simp; done) | (simp; omega)) (fun k hk => by have e : (wr.heap.size + 1) = k := (by injection hk); have := HBL3.out; omega))) (by simp [tsL]; omega) (by have := HBL3.out; have := HL4.out; first | omega | (simp; done) | (simp; omega)) ?_
                      intro v5 w5 hown5 hgrow5 hat5
                      rw [show 0 + (tsL t).length = t by simp [tsL]] at hown5
                      obtain ⟨A5, c5, rfl⟩ := Gn.slice_of hown5
                      have hl5 := hgrow5.size
                      try simp at hl5
                      have HL5 := Lib.hid hl5
                      have HO5 := Lib.hid hown5
                      have HG5 := Lib.hid hgrow5
                      have HT5 := Lib.hid hat5
                      clear hown5 hgrow5 hat5 hl5
                      refine hK.out _ _ ((HKW.out _ ((HG5.out.block _ (by have := HBL3.out; have := HL4.out; first | omega | (simp; done) | (simp; omega)) (fun e => by have e : (B) = (wr.heap.size) := (by injection e); have := HBL3.out; have := HL4.out; omega)).trans ((HG4.out.block _ (by have := HBL3.out; first | omega | (simp; done) | (simp; omega)) (fun e => by have e : (B) = (wr.heap.size + 1) := (by injection e); have := HBL3.out; omega)).trans ((heap_alloc_old _ _ (by have := HBL3.out; first | omega | (simp; done) | (simp; omega))).trans ((heap_alloc_old _ _ (by have := HBL3.out; first | omega | (simp; done) | (simp; omega))).trans ((heap_alloc_old _ _ (by have := HBL3.out; first | omega | (simp; done) | (simp; omega))).trans (rfl)))))))) (fun hHeld => ?_)
                      clear hK K
                      try simp only [Act.put, List.setIfInBounds_toArray, List.set_cons_zero, List.set_cons_succ]
                      refine wpAnyH_take (i := 11) (v := ?_) rfl (by kernel_rfl) (by kernel_rfl) (by kernel_rfl) (fun _ _ _ h => h) (Or.inl ⟨by rfl, ?_⟩) (by assumption) ?_
                      rotate_left
                      · intro w hSw
                        try dsimp only at hSw
                        go_simp
                        try with_reducible rfl
                      try simp only [Act.put, List.setIfInBounds_toArray, List.set_cons_zero, List.set_cons_succ]
                      refine wpAnyH_ready (rs := [13]) (by kernel_rfl) (by simp) ?_
                      refine AllReadyH.cons rfl (fun K hK => ?_) AllReadyH.nil
                      refine step_store_box _ (by rfl) 31 (.tmp 13) (.tmp 156) (by rfl) (wr.heap.size + 1 + 1) (.int .i64 st) (.int .i64 n) (.slice A4 n c4) (.slice A5 t c5) (.slice none 0 0) _ _ _ _ _ _ (by simp [Act.eval]) (by simp [Act.eval]) ((HG5.out.block _ (by have := HBL3.out; have := HL4.out; first | omega | (simp; done) | (simp; omega)) (fun e => by have e : (wr.heap.size + 1 + 1) = (wr.heap.size) := (by injection e); have := HBL3.out; have := HL4.out; omega)).trans ((HG4.out.block _ (by have := HBL3.out; first | omega | (simp; done) | (simp; omega)) (fun e => by have e : (wr.heap.size + 1 + 1) = (wr.heap.size + 1) := (by injection e); have := HBL3.out; omega)).trans (heap_new _ _ _ (by first | rfl | simp)))) (by kernel_rfl) (by simp [Value.oneCell']) ?_
                      intro w6 hbx6 hoth6 hbel6 hsz6
                      try simp at hsz6
                      have HB6 := Lib.hid hbx6
                      have HO6 := Lib.hid hoth6
                      have HE6 := Lib.hid hbel6
                      have HS6 := Lib.hid hsz6
                      clear hbx6 hoth6 hbel6 hsz6
                      refine hK.out _ _ ((HKW.out _ ((HO6.out _ (by have := HBL3.out; have := HBL3.out; have := HL4.out; have := HL5.out; omega)).trans ((HG5.out.block _ (by have := HBL3.out; have := HL4.out; first | omega | (simp; done) | (simp; omega)) (fun e => by have e : (B) = (wr.heap.size) := (by injection e); have := HBL3.out; have := HL4.out; omega)).trans ((HG4.out.block _ (by have := HBL3.out; first | omega | (simp; done) | (simp; omega)) (fun e => by have e : (B) = (wr.heap.size + 1) := (by injection e); have := HBL3.out; omega)).trans ((heap_alloc_old _ _ (by have := HBL3.out; first | omega | (simp; done) | (simp; omega))).trans ((heap_alloc_old _ _ (by have := HBL3.out; first | omega | (simp; done) | (simp; omega))).trans ((heap_alloc_old _ _ (by have := HBL3.out; first | omega | (simp; done) | (simp; omega))).trans (rfl))))))))) (fun hHeld => ?_)
                      clear hK K
                      try simp only [Act.put, List.setIfInBounds_toArray, List.set_cons_zero, List.set_cons_succ]
                      refine wpAnyH_done (by kernel_rfl) ?_ _
                      refine NoPanic.normal ?_
                      go_wp2_with fail
                      first
                        | go_meet
                        | (rename_i d1 h1; cases h1; go_meet)
                        | (rename_i d1 h1 dd d2 h2; cases h1; cases h2; go_meet)
                        | (rename_i d1 h1 dd d2 h2 de d3 h3; cases h1; cases h2; cases h3; go_meet)
                      exact ⟨_, _, _, rfl, by have := HBL3.out; have := HL4.out; have := HL5.out;  omega, Below.trans (by exact Below.grown (Below.grown (Gn.below_drew (Below.alloc (Below.alloc (Below.alloc (Below.refl _ _) (by have := HBL3.out; first | omega | (simp; done) | (simp; omega)) _) (by have := HBL3.out; first | omega | (simp; done) | (simp; omega)) _) (by have := HBL3.out; first | omega | (simp; done) | (simp; omega)) _)) HG4.out (by have := HBL3.out; first | omega | (simp; done) | (simp; omega)) (fun k hk => by have e : (wr.heap.size + 1) = k := (by injection hk); have := HBL3.out; omega)) HG5.out (by have := HBL3.out; have := HL4.out; first | omega | (simp; done) | (simp; omega)) (fun k hk => by have e : (wr.heap.size) = k := (by injection hk); have := HBL3.out; have := HL4.out; omega)) (HE6.out _ (by have := HBL3.out; have := HL4.out; have := HL5.out;  omega)), by have := HBL3.out; have := HBE.out; have := HBL3.out; have := HL4.out; have := HL5.out; omega, HB6.out,
                          (StrsAt.of_own (l := nsL n) (by simp [nsL]) HO4.out).keep (by have := HS6.out; have := HBL3.out; have := HL4.out; have := HL5.out; omega) (fun r hp hr => by
                            have e : r = wr.heap.size + 1 ∨ r = wr.heap.size + 1 + 1 + 1 := by
                              rcases HT4.out with h | h
                              · have e := hp.2; rw [h] at e; simp [Value.ownBlock] at e; left; omega
                              · have e := hp.2; rw [h] at e; simp at e; right; omega
                            have := HBL3.out; have := HBE.out; have := HBL3.out; have := HL4.out; have := HL5.out; 
                            exact ⟨⟨⟨by omega, by omega⟩, by simp [Value.ownBlock]⟩, fun j => Gn.cell_same ((HO6.out _ (by omega)).trans ((HG5.out.block _ (by first | omega | (simp; done) | (simp; omega)) (fun e => by have e : r = (wr.heap.size) := (by injection e); omega)).trans (rfl))) j⟩),
                          (StrsAt.of_own (l := tsL t) (by simp [tsL]) HO5.out).keep (by have := HS6.out; have := HBL3.out; have := HL4.out; have := HL5.out; omega) (fun r hp hr => by
                            have e : r = wr.heap.size ∨ r = w4.heap.size := by
                              rcases HT5.out with h | h
                              · have e := hp.2; rw [h] at e; simp [Value.ownBlock] at e; left; omega
                              · have e := hp.2; rw [h] at e; simp at e; right; omega
                            have := HBL3.out; have := HBE.out; have := HBL3.out; have := HL4.out; have := HL5.out; 
                            exact ⟨⟨⟨by omega, by omega⟩, by simp [Value.ownBlock]⟩, fun j => Gn.cell_same ((HO6.out _ (by omega)).trans (rfl)) j⟩), PItems.nil _ _ _ _, Below.refl _ _⟩
                  refine AllReadyH.cons rfl (fun K hK => ?_) AllReadyH.nil
                  · go_simp
                    refine hK.out _ _ ((HKW.out _ ((heap_alloc_old _ _ (by have := HBL3.out; first | omega | (simp; done) | (simp; omega))).trans ((heap_alloc_old _ _ (by have := HBL3.out; first | omega | (simp; done) | (simp; omega))).trans (rfl))))) (fun hHeld => ?_)
                    clear hK K
                    try simp only [Act.put, List.setIfInBounds_toArray, List.set_cons_zero, List.set_cons_succ]
                    refine wpAnyH_ready (rs := [3]) (by kernel_rfl) (by simp) ?_
                    refine AllReadyH.cons rfl (fun K hK => ?_) AllReadyH.nil
                    go_simp
                    refine hK.out _ _ ((HKW.out _ ((heap_alloc_old _ _ (by have := HBL3.out; first | omega | (simp; done) | (simp; omega))).trans ((heap_alloc_old _ _ (by have := HBL3.out; first | omega | (simp; done) | (simp; omega))).trans ((heap_alloc_old _ _ (by have := HBL3.out; first | omega | (simp; done) | (simp; omega))).trans (rfl)))))) (fun hHeld => ?_)
                    clear hK K
                    try simp only [Act.put, List.setIfInBounds_toArray, List.set_cons_zero, List.set_cons_succ]
                    refine wpAnyH_ready (rs := [6]) (by kernel_rfl) (by simp) ?_
                    refine AllReadyH.cons rfl (fun K hK => ?_) AllReadyH.nil
                    refine step_append_strs _ (by rfl) (.tmp 148) (.tmp 150) (by rfl) wr.heap.size (.slice (some ⟨wr.heap.size + 1 + 1, 0, none⟩) 0 0) 0 [] (by simp [Act.eval]) (own_empty (by exact heap_new _ _ _ (by first | rfl | simp)) (by have := HBL3.out; omega)) _ (nsL n) va (by simp [Act.eval]) (HA3.out.names.under (by exact Gn.below_drew (Below.alloc (Below.alloc (Below.alloc (Below.refl _ _) (by have := HBL3.out; first | omega | (simp; done) | (simp; omega)) _) (by have := HBL3.out; first | omega | (simp; done) | (simp; omega)) _) (by have := HBL3.out; first | omega | (simp; done) | (simp; omega)) _))) (by simp [nsL]; omega) (by have := HBL3.out; first | omega | (simp; done) | (simp; omega)) ?_
                    intro v4 w4 hown4 hgrow4 hat4
                    rw [show 0 + (nsL n).length = n by simp [nsL]] at hown4
                    obtain ⟨A4, c4, rfl⟩ := Gn.slice_of hown4
                    have hl4 := hgrow4.size
                    try simp at hl4
                    have HL4 := Lib.hid hl4
                    have HO4 := Lib.hid hown4
                    have HG4 := Lib.hid hgrow4
                    have HT4 := Lib.hid hat4
                    clear hown4 hgrow4 hat4 hl4
                    refine hK.out _ _ ((HKW.out _ ((HG4.out.block _ (by have := HBL3.out; first | omega | (simp; done) | (simp; omega)) (fun e => by have e : (B) = (wr.heap.size + 1 + 1) := (by injection e); have := HBL3.out; omega)).trans ((heap_alloc_old _ _ (by have := HBL3.out; first | omega | (simp; done) | (simp; omega))).trans ((heap_alloc_old _ _ (by have := HBL3.out; first | omega | (simp; done) | (simp; omega))).trans ((heap_alloc_old _ _ (by have := HBL3.out; first | omega | (simp; done) | (simp; omega))).trans (rfl))))))) (fun hHeld => ?_)
                    clear hK K
                    try simp only [Act.put, List.setIfInBounds_toArray, List.set_cons_zero, List.set_cons_succ]
                    refine wpAnyH_ready (rs := [10]) (by kernel_rfl) (by simp) ?_
                    refine AllReadyH.cons rfl (fun K hK => ?_) AllReadyH.nil
                    refine step_append_strs _ (by rfl) (.tmp 152) (.tmp 154) (by rfl) wr.heap.size (.slice (some ⟨wr.heap.size, 0, none⟩) 0 0) 0 [] (by simp [Act.eval]) (own_empty (by exact (HG4.out.block _ (by have := HBL3.out; first | omega | (simp; done) | (simp; omega)) (fun e => by have e : (wr.heap.size) = (wr.heap.size + 1 + 1) := (by injection e); have := HBL3.out; omega)).trans ((heap_alloc_old _ _ (by have := HBL3.out; first | omega | (simp; done) | (simp; omega))).trans ((heap_alloc_old _ _ (by have := HBL3.out; first | omega | (simp; done) | (simp; omega))).trans (heap_new _ _ _ (by first | rfl | simp))))) (by have := HBL3.out; have := HL4.out; omega)) _ (tsL t) vb (by simp [Act.eval]) (HA3.out.terms.under (by exact Below.grown (Gn.below_drew (Below.alloc (Below.alloc (Below.alloc (Below.refl _ _) (by have := HBL3.out; first | omega | (simp; done) | (simp; omega)) _) (by have := HBL3.out; first | omega | (simp; done) | (simp; omega)) _) (by have := HBL3.out; first | omega | (simp; done) | (simp; omega)) _)) HG4.out (by have := HBL3.out; first | omega | (simp; done) | (simp; omega)) (fun k hk => by have e : (wr.heap.size + 1 + 1) = k := (by injection hk); have := HBL3.out; omega))) (by simp [tsL]; omega) (by have := HBL3.out; have := HL4.out; first | omega | (simp; done) | (simp; omega)) ?_
                    intro v5 w5 hown5 hgrow5 hat5
                    rw [show 0 + (tsL t).length = t by simp [tsL]] at hown5
                    obtain ⟨A5, c5, rfl⟩ := Gn.slice_of hown5
                    have hl5 := hgrow5.size
                    try simp at hl5
                    have HL5 := Lib.hid hl5
                    have HO5 := Lib.hid hown5
                    have HG5 := Lib.hid hgrow5
                    have HT5 := Lib.hid hat5
                    clear hown5 hgrow5 hat5 hl5
                    refine hK.out _ _ ((HKW.out _ ((HG5.out.block _ (by have := HBL3.out; have := HL4.out; first | omega | (simp; done) | (simp; omega)) (fun e => by have e : (B) = (wr.heap.size) := (by injection e); have := HBL3.out; have := HL4.out; omega)).trans ((HG4.out.block _ (by have := HBL3.out; first | omega | (simp; done) | (simp; omega)) (fun e => by have e : (B) = (wr.heap.size + 1 + 1) := (by injection e); have := HBL3.out; omega)).trans ((heap_alloc_old _ _ (by have := HBL3.out; first | omega | (simp; done) | (simp; omega))).trans ((heap_alloc_old _ _ (by have := HBL3.out; first | omega | (simp; done) | (simp; omega))).trans ((heap_alloc_old _ _ (by have := HBL3.out; first | omega | (simp; done) | (simp; omega))).trans (rfl)))))))) (fun hHeld => ?_)
                    clear hK K
                    try simp only [Act.put, List.setIfInBounds_toArray, List.set_cons_zero, List.set_cons_succ]
                    refine wpAnyH_take (i := 11) (v := ?_) rfl (by kernel_rfl) (by kernel_rfl) (by kernel_rfl) (fun _ _ _ h => h) (Or.inl ⟨by rfl, ?_⟩) (by assumption) ?_
                    rotate_left
                    · intro w hSw
                      try dsimp only at hSw
                      go_simp
                      try with_reducible rfl
                    try simp only [Act.put, List.setIfInBounds_toArray, List.set_cons_zero, List.set_cons_succ]
                    refine wpAnyH_ready (rs := [13]) (by kernel_rfl) (by simp) ?_
                    refine AllReadyH.cons rfl (fun K hK => ?_) AllReadyH.nil
                    refine step_store_box _ (by rfl) 31 (.tmp 13) (.tmp 156) (by rfl) (wr.heap.size + 1) (.int .i64 st) (.int .i64 n) (.slice A4 n c4) (.slice A5 t c5) (.slice none 0 0) _ _ _ _ _ _ (by simp [Act.eval]) (by simp [Act.eval]) ((HG5.out.block _ (by have := HBL3.out; have := HL4.out; first | omega | (simp; done) | (simp; omega)) (fun e => by have e : (wr.heap.size + 1) = (wr.heap.size) := (by injection e); have := HBL3.out; have := HL4.out; omega)).trans ((HG4.out.block _ (by have := HBL3.out; first | omega | (simp; done) | (simp; omega)) (fun e => by have e : (wr.heap.size + 1) = (wr.heap.size + 1 + 1) := (by injection e); have := HBL3.out; omega)).trans ((heap_alloc_old _ _ (by have := HBL3.out; first | omega | (simp; done) | (simp; omega))).trans (heap_new _ _ _ (by first | rfl | simp))))) (by kernel_rfl) (by simp [Value.oneCell']) ?_
                    intro w6 hbx6 hoth6 hbel6 hsz6
                    try simp at hsz6
                    have HB6 := Lib.hid hbx6
                    have HO6 := Lib.hid hoth6
                    have HE6 := Lib.hid hbel6
                    have HS6 := Lib.hid hsz6
                    clear hbx6 hoth6 hbel6 hsz6
                    refine hK.out _ _ ((HKW.out _ ((HO6.out _ (by have := HBL3.out; have := HBL3.out; have := HL4.out; have := HL5.out; omega)).trans ((HG5.out.block _ (by have := HBL3.out; have := HL4.out; first | omega | (simp; done) | (simp; omega)) (fun e => by have e : (B) = (wr.heap.size) := (by injection e); have := HBL3.out; have := HL4.out; omega)).trans ((HG4.out.block _ (by have := HBL3.out; first | omega | (simp; done) | (simp; omega)) (fun e => by have e : (B) = (wr.heap.size + 1 + 1) := (by injection e); have := HBL3.out; omega)).trans ((heap_alloc_old _ _ (by have := HBL3.out; first | omega | (simp; done) | (simp; omega))).trans ((heap_alloc_old _ _ (by have := HBL3.out; first | omega | (simp; done) | (simp; omega))).trans ((heap_alloc_old _ _ (by have := HBL3.out; first | omega | (simp; done) | (simp; omega))).trans (rfl))))))))) (fun hHeld => ?_)
                    clear hK K
                    try simp only [Act.put, List.setIfInBounds_toArray, List.set_cons_zero, List.set_cons_succ]
                    refine wpAnyH_done (by kernel_rfl) ?_ _
                    refine NoPanic.normal ?_
                    go_wp2_with fail
                    first
                      | go_meet
                      | (rename_i d1 h1; cases h1; go_meet)
                      | (rename_i d1 h1 dd d2 h2; cases h1; cases h2; go_meet)
                      | (rename_i d1 h1 dd d2 h2 de d3 h3; cases h1; cases h2; cases h3; go_meet)
                    exact ⟨_, _, _, rfl, by have := HBL3.out; have := HL4.out; have := HL5.out;  omega, Below.trans (by exact Below.grown (Below.grown (Gn.below_drew (Below.alloc (Below.alloc (Below.alloc (Below.refl _ _) (by have := HBL3.out; first | omega | (simp; done) | (simp; omega)) _) (by have := HBL3.out; first | omega | (simp; done) | (simp; omega)) _) (by have := HBL3.out; first | omega | (simp; done) | (simp; omega)) _)) HG4.out (by have := HBL3.out; first | omega | (simp; done) | (simp; omega)) (fun k hk => by have e : (wr.heap.size + 1 + 1) = k := (by injection hk); have := HBL3.out; omega)) HG5.out (by have := HBL3.out; have := HL4.out; first | omega | (simp; done) | (simp; omega)) (fun k hk => by have e : (wr.heap.size) = k := (by injection hk); have := HBL3.out; have := HL4.out; omega)) (HE6.out _ (by have := HBL3.out; have := HL4.out; have := HL5.out;  omega)), by have := HBL3.out; have := HBE.out; have := HBL3.out; have := HL4.out; have := HL5.out; omega, HB6.out,
                        (StrsAt.of_own (l := nsL n) (by simp [nsL]) HO4.out).keep (by have := HS6.out; have := HBL3.out; have := HL4.out; have := HL5.out; omega) (fun r hp hr => by
                          have e : r = wr.heap.size + 1 + 1 ∨ r = wr.heap.size + 1 + 1 + 1 := by
                            rcases HT4.out with h | h
                            · have e := hp.2; rw [h] at e; simp [Value.ownBlock] at e; left; omega
                            · have e := hp.2; rw [h] at e; simp at e; right; omega
                          have := HBL3.out; have := HBE.out; have := HBL3.out; have := HL4.out; have := HL5.out; 
                          exact ⟨⟨⟨by omega, by omega⟩, by simp [Value.ownBlock]⟩, fun j => Gn.cell_same ((HO6.out _ (by omega)).trans ((HG5.out.block _ (by first | omega | (simp; done) | (simp; omega)) (fun e => by have e : r = (wr.heap.size) := (by injection e); omega)).trans (rfl))) j⟩),
                        (StrsAt.of_own (l := tsL t) (by simp [tsL]) HO5.out).keep (by have := HS6.out; have := HBL3.out; have := HL4.out; have := HL5.out; omega) (fun r hp hr => by
                          have e : r = wr.heap.size ∨ r = w4.heap.size := by
                            rcases HT5.out with h | h
                            · have e := hp.2; rw [h] at e; simp [Value.ownBlock] at e; left; omega
                            · have e := hp.2; rw [h] at e; simp at e; right; omega
                          have := HBL3.out; have := HBE.out; have := HBL3.out; have := HL4.out; have := HL5.out; 
                          exact ⟨⟨⟨by omega, by omega⟩, by simp [Value.ownBlock]⟩, fun j => Gn.cell_same ((HO6.out _ (by omega)).trans (rfl)) j⟩), PItems.nil _ _ _ _, Below.refl _ _⟩
                refine AllReadyH.cons rfl (fun K hK => ?_) AllReadyH.nil
                · go_simp
                  refine hK.out _ _ ((HKW.out _ ((heap_alloc_old _ _ (by have := HBL3.out; first | omega | (simp; done) | (simp; omega))).trans (rfl)))) (fun hHeld => ?_)
                  clear hK K
                  try simp only [Act.put, List.setIfInBounds_toArray, List.set_cons_zero, List.set_cons_succ]
                  refine wpAnyH_ready (rs := [3, 7]) (by kernel_rfl) (by simp) ?_
                  refine AllReadyH.cons rfl (fun K hK => ?_) ?_
                  · go_simp
                    refine hK.out _ _ ((HKW.out _ ((heap_alloc_old _ _ (by have := HBL3.out; first | omega | (simp; done) | (simp; omega))).trans ((heap_alloc_old _ _ (by have := HBL3.out; first | omega | (simp; done) | (simp; omega))).trans (rfl))))) (fun hHeld => ?_)
                    clear hK K
                    try simp only [Act.put, List.setIfInBounds_toArray, List.set_cons_zero, List.set_cons_succ]
                    refine wpAnyH_ready (rs := [6, 7]) (by kernel_rfl) (by simp) ?_
                    refine AllReadyH.cons rfl (fun K hK => ?_) ?_
                    · refine step_append_strs _ (by rfl) (.tmp 148) (.tmp 150) (by rfl) wr.heap.size (.slice (some ⟨wr.heap.size + 1, 0, none⟩) 0 0) 0 [] (by simp [Act.eval]) (own_empty (by exact heap_new _ _ _ (by first | rfl | simp)) (by have := HBL3.out; omega)) _ (nsL n) va (by simp [Act.eval]) (HA3.out.names.under (by exact Gn.below_drew (Below.alloc (Below.alloc (Below.refl _ _) (by have := HBL3.out; first | omega | (simp; done) | (simp; omega)) _) (by have := HBL3.out; first | omega | (simp; done) | (simp; omega)) _))) (by simp [nsL]; omega) (by have := HBL3.out; first | omega | (simp; done) | (simp; omega)) ?_
                      intro v4 w4 hown4 hgrow4 hat4
                      rw [show 0 + (nsL n).length = n by simp [nsL]] at hown4
                      obtain ⟨A4, c4, rfl⟩ := Gn.slice_of hown4
                      have hl4 := hgrow4.size
                      try simp at hl4
                      have HL4 := Lib.hid hl4
                      have HO4 := Lib.hid hown4
                      have HG4 := Lib.hid hgrow4
                      have HT4 := Lib.hid hat4
                      clear hown4 hgrow4 hat4 hl4
                      refine hK.out _ _ ((HKW.out _ ((HG4.out.block _ (by have := HBL3.out; first | omega | (simp; done) | (simp; omega)) (fun e => by have e : (B) = (wr.heap.size + 1) := (by injection e); have := HBL3.out; omega)).trans ((heap_alloc_old _ _ (by have := HBL3.out; first | omega | (simp; done) | (simp; omega))).trans ((heap_alloc_old _ _ (by have := HBL3.out; first | omega | (simp; done) | (simp; omega))).trans (rfl)))))) (fun hHeld => ?_)
                      clear hK K
                      try simp only [Act.put, List.setIfInBounds_toArray, List.set_cons_zero, List.set_cons_succ]
                      refine wpAnyH_ready (rs := [7]) (by kernel_rfl) (by simp) ?_
                      refine AllReadyH.cons rfl (fun K hK => ?_) AllReadyH.nil
                      go_simp
                      refine hK.out _ _ ((HKW.out _ ((heap_alloc_old _ _ (by have := HBL3.out; have := HL4.out; first | omega | (simp; done) | (simp; omega))).trans ((HG4.out.block _ (by have := HBL3.out; first | omega | (simp; done) | (simp; omega)) (fun e => by have e : (B) = (wr.heap.size + 1) := (by injection e); have := HBL3.out; omega)).trans ((heap_alloc_old _ _ (by have := HBL3.out; first | omega | (simp; done) | (simp; omega))).trans ((heap_alloc_old _ _ (by have := HBL3.out; first | omega | (simp; done) | (simp; omega))).trans (rfl))))))) (fun hHeld => ?_)
                      clear hK K
                      try simp only [Act.put, List.setIfInBounds_toArray, List.set_cons_zero, List.set_cons_succ]
                      refine wpAnyH_ready (rs := [10]) (by kernel_rfl) (by simp) ?_
                      refine AllReadyH.cons rfl (fun K hK => ?_) AllReadyH.nil
                      refine step_append_strs _ (by rfl) (.tmp 152) (.tmp 154) (by rfl) wr.heap.size (.slice (some ⟨w4.heap.size, 0, none⟩) 0 0) 0 [] (by simp [Act.eval]) (own_empty (by exact heap_new _ _ _ (by first | rfl | simp)) (by have := HBL3.out; have := HL4.out; omega)) _ (tsL t) vb (by simp [Act.eval]) (HA3.out.terms.under (by exact Below.alloc (Below.grown (Gn.below_drew (Below.alloc (Below.alloc (Below.refl _ _) (by have := HBL3.out; first | omega | (simp; done) | (simp; omega)) _) (by have := HBL3.out; first | omega | (simp; done) | (simp; omega)) _)) HG4.out (by have := HBL3.out; first | omega | (simp; done) | (simp; omega)) (fun k hk => by have e : (wr.heap.size + 1) = k := (by injection hk); have := HBL3.out; omega)) (by have := HBL3.out; have := HL4.out; first | omega | (simp; done) | (simp; omega)) _)) (by simp [tsL]; omega) (by have := HBL3.out; have := HL4.out; first | omega | (simp; done) | (simp; omega)) ?_
                      intro v5 w5 hown5 hgrow5 hat5
                      rw [show 0 + (tsL t).length = t by simp [tsL]] at hown5
                      obtain ⟨A5, c5, rfl⟩ := Gn.slice_of hown5
                      have hl5 := hgrow5.size
                      try simp at hl5
                      have HL5 := Lib.hid hl5
                      have HO5 := Lib.hid hown5
                      have HG5 := Lib.hid hgrow5
                      have HT5 := Lib.hid hat5
                      clear hown5 hgrow5 hat5 hl5
                      refine hK.out _ _ ((HKW.out _ ((HG5.out.block _ (by have := HBL3.out; have := HL4.out; first | omega | (simp; done) | (simp; omega)) (fun e => by have e : (B) = (w4.heap.size) := (by injection e); have := HBL3.out; have := HL4.out; omega)).trans ((heap_alloc_old _ _ (by have := HBL3.out; have := HL4.out; first | omega | (simp; done) | (simp; omega))).trans ((HG4.out.block _ (by have := HBL3.out; first | omega | (simp; done) | (simp; omega)) (fun e => by have e : (B) = (wr.heap.size + 1) := (by injection e); have := HBL3.out; omega)).trans ((heap_alloc_old _ _ (by have := HBL3.out; first | omega | (simp; done) | (simp; omega))).trans ((heap_alloc_old _ _ (by have := HBL3.out; first | omega | (simp; done) | (simp; omega))).trans (rfl)))))))) (fun hHeld => ?_)
                      clear hK K
                      try simp only [Act.put, List.setIfInBounds_toArray, List.set_cons_zero, List.set_cons_succ]
                      refine wpAnyH_take (i := 11) (v := ?_) rfl (by kernel_rfl) (by kernel_rfl) (by kernel_rfl) (fun _ _ _ h => h) (Or.inl ⟨by rfl, ?_⟩) (by assumption) ?_
                      rotate_left
                      · intro w hSw
                        try dsimp only at hSw
                        go_simp
                        try with_reducible rfl
                      try simp only [Act.put, List.setIfInBounds_toArray, List.set_cons_zero, List.set_cons_succ]
                      refine wpAnyH_ready (rs := [13]) (by kernel_rfl) (by simp) ?_
                      refine AllReadyH.cons rfl (fun K hK => ?_) AllReadyH.nil
                      refine step_store_box _ (by rfl) 31 (.tmp 13) (.tmp 156) (by rfl) (wr.heap.size) (.int .i64 st) (.int .i64 n) (.slice A4 n c4) (.slice A5 t c5) (.slice none 0 0) _ _ _ _ _ _ (by simp [Act.eval]) (by simp [Act.eval]) ((HG5.out.block _ (by have := HBL3.out; have := HL4.out; first | omega | (simp; done) | (simp; omega)) (fun e => by have e : (wr.heap.size) = (w4.heap.size) := (by injection e); have := HBL3.out; have := HL4.out; omega)).trans ((heap_alloc_old _ _ (by have := HBL3.out; have := HL4.out; first | omega | (simp; done) | (simp; omega))).trans ((HG4.out.block _ (by have := HBL3.out; first | omega | (simp; done) | (simp; omega)) (fun e => by have e : (wr.heap.size) = (wr.heap.size + 1) := (by injection e); have := HBL3.out; omega)).trans ((heap_alloc_old _ _ (by have := HBL3.out; first | omega | (simp; done) | (simp; omega))).trans (heap_new _ _ _ (by first | rfl | simp)))))) (by kernel_rfl) (by simp [Value.oneCell']) ?_
                      intro w6 hbx6 hoth6 hbel6 hsz6
                      try simp at hsz6
                      have HB6 := Lib.hid hbx6
                      have HO6 := Lib.hid hoth6
                      have HE6 := Lib.hid hbel6
                      have HS6 := Lib.hid hsz6
                      clear hbx6 hoth6 hbel6 hsz6
                      refine hK.out _ _ ((HKW.out _ ((HO6.out _ (by have := HBL3.out; have := HBL3.out; have := HL4.out; have := HL5.out; omega)).trans ((HG5.out.block _ (by have := HBL3.out; have := HL4.out; first | omega | (simp; done) | (simp; omega)) (fun e => by have e : (B) = (w4.heap.size) := (by injection e); have := HBL3.out; have := HL4.out; omega)).trans ((heap_alloc_old _ _ (by have := HBL3.out; have := HL4.out; first | omega | (simp; done) | (simp; omega))).trans ((HG4.out.block _ (by have := HBL3.out; first | omega | (simp; done) | (simp; omega)) (fun e => by have e : (B) = (wr.heap.size + 1) := (by injection e); have := HBL3.out; omega)).trans ((heap_alloc_old _ _ (by have := HBL3.out; first | omega | (simp; done) | (simp; omega))).trans ((heap_alloc_old _ _ (by have := HBL3.out; first | omega | (simp; done) | (simp; omega))).trans (rfl))))))))) (fun hHeld => ?_)
                      clear hK K
                      try simp only [Act.put, List.setIfInBounds_toArray, List.set_cons_zero, List.set_cons_succ]
                      refine wpAnyH_done (by kernel_rfl) ?_ _
                      refine NoPanic.normal ?_
                      go_wp2_with fail
                      first
                        | go_meet
                        | (rename_i d1 h1; cases h1; go_meet)
                        | (rename_i d1 h1 dd d2 h2; cases h1; cases h2; go_meet)
                        | (rename_i d1 h1 dd d2 h2 de d3 h3; cases h1; cases h2; cases h3; go_meet)
                      exact ⟨_, _, _, rfl, by have := HBL3.out; have := HL4.out; have := HL5.out;  omega, Below.trans (by exact Below.grown (Below.alloc (Below.grown (Gn.below_drew (Below.alloc (Below.alloc (Below.refl _ _) (by have := HBL3.out; first | omega | (simp; done) | (simp; omega)) _) (by have := HBL3.out; first | omega | (simp; done) | (simp; omega)) _)) HG4.out (by have := HBL3.out; first | omega | (simp; done) | (simp; omega)) (fun k hk => by have e : (wr.heap.size + 1) = k := (by injection hk); have := HBL3.out; omega)) (by have := HBL3.out; have := HL4.out; first | omega | (simp; done) | (simp; omega)) _) HG5.out (by have := HBL3.out; have := HL4.out; first | omega | (simp; done) | (simp; omega)) (fun k hk => by have e : (w4.heap.size) = k := (by injection hk); have := HBL3.out; have := HL4.out; omega)) (HE6.out _ (by have := HBL3.out; have := HL4.out; have := HL5.out;  omega)), by have := HBL3.out; have := HBE.out; have := HBL3.out; have := HL4.out; have := HL5.out; omega, HB6.out,
                          (StrsAt.of_own (l := nsL n) (by simp [nsL]) HO4.out).keep (by have := HS6.out; have := HBL3.out; have := HL4.out; have := HL5.out; omega) (fun r hp hr => by
                            have e : r = wr.heap.size + 1 ∨ r = wr.heap.size + 1 + 1 := by
                              rcases HT4.out with h | h
                              · have e := hp.2; rw [h] at e; simp [Value.ownBlock] at e; left; omega
                              · have e := hp.2; rw [h] at e; simp at e; right; omega
                            have := HBL3.out; have := HBE.out; have := HBL3.out; have := HL4.out; have := HL5.out; 
                            exact ⟨⟨⟨by omega, by omega⟩, by simp [Value.ownBlock]⟩, fun j => Gn.cell_same ((HO6.out _ (by omega)).trans ((HG5.out.block _ (by first | omega | (simp; done) | (simp; omega)) (fun e => by have e : r = (w4.heap.size) := (by injection e); omega)).trans ((heap_alloc_old _ _ (by first | omega | (simp; done) | (simp; omega))).trans (rfl)))) j⟩),
                          (StrsAt.of_own (l := tsL t) (by simp [tsL]) HO5.out).keep (by have := HS6.out; have := HBL3.out; have := HL4.out; have := HL5.out; omega) (fun r hp hr => by
                            have e : r = w4.heap.size ∨ r = w4.heap.size + 1 := by
                              rcases HT5.out with h | h
                              · have e := hp.2; rw [h] at e; simp [Value.ownBlock] at e; left; omega
                              · have e := hp.2; rw [h] at e; simp at e; right; omega
                            have := HBL3.out; have := HBE.out; have := HBL3.out; have := HL4.out; have := HL5.out; 
                            exact ⟨⟨⟨by omega, by omega⟩, by simp [Value.ownBlock]⟩, fun j => Gn.cell_same ((HO6.out _ (by omega)).trans (rfl)) j⟩), PItems.nil _ _ _ _, Below.refl _ _⟩
                    refine AllReadyH.cons rfl (fun K hK => ?_) AllReadyH.nil
                    · go_simp
                      refine hK.out _ _ ((HKW.out _ ((heap_alloc_old _ _ (by have := HBL3.out; first | omega | (simp; done) | (simp; omega))).trans ((heap_alloc_old _ _ (by have := HBL3.out; first | omega | (simp; done) | (simp; omega))).trans ((heap_alloc_old _ _ (by have := HBL3.out; first | omega | (simp; done) | (simp; omega))).trans (rfl)))))) (fun hHeld => ?_)
                      clear hK K
                      try simp only [Act.put, List.setIfInBounds_toArray, List.set_cons_zero, List.set_cons_succ]
                      refine wpAnyH_ready (rs := [6]) (by kernel_rfl) (by simp) ?_
                      refine AllReadyH.cons rfl (fun K hK => ?_) AllReadyH.nil
                      refine step_append_strs _ (by rfl) (.tmp 148) (.tmp 150) (by rfl) wr.heap.size (.slice (some ⟨wr.heap.size + 1, 0, none⟩) 0 0) 0 [] (by simp [Act.eval]) (own_empty (by exact (heap_alloc_old _ _ (by have := HBL3.out; first | omega | (simp; done) | (simp; omega))).trans (heap_new _ _ _ (by first | rfl | simp))) (by have := HBL3.out; omega)) _ (nsL n) va (by simp [Act.eval]) (HA3.out.names.under (by exact Gn.below_drew (Below.alloc (Below.alloc (Below.alloc (Below.refl _ _) (by have := HBL3.out; first | omega | (simp; done) | (simp; omega)) _) (by have := HBL3.out; first | omega | (simp; done) | (simp; omega)) _) (by have := HBL3.out; first | omega | (simp; done) | (simp; omega)) _))) (by simp [nsL]; omega) (by have := HBL3.out; first | omega | (simp; done) | (simp; omega)) ?_
                      intro v4 w4 hown4 hgrow4 hat4
                      rw [show 0 + (nsL n).length = n by simp [nsL]] at hown4
                      obtain ⟨A4, c4, rfl⟩ := Gn.slice_of hown4
                      have hl4 := hgrow4.size
                      try simp at hl4
                      have HL4 := Lib.hid hl4
                      have HO4 := Lib.hid hown4
                      have HG4 := Lib.hid hgrow4
                      have HT4 := Lib.hid hat4
                      clear hown4 hgrow4 hat4 hl4
                      refine hK.out _ _ ((HKW.out _ ((HG4.out.block _ (by have := HBL3.out; first | omega | (simp; done) | (simp; omega)) (fun e => by have e : (B) = (wr.heap.size + 1) := (by injection e); have := HBL3.out; omega)).trans ((heap_alloc_old _ _ (by have := HBL3.out; first | omega | (simp; done) | (simp; omega))).trans ((heap_alloc_old _ _ (by have := HBL3.out; first | omega | (simp; done) | (simp; omega))).trans ((heap_alloc_old _ _ (by have := HBL3.out; first | omega | (simp; done) | (simp; omega))).trans (rfl))))))) (fun hHeld => ?_)
                      clear hK K
                      try simp only [Act.put, List.setIfInBounds_toArray, List.set_cons_zero, List.set_cons_succ]
                      refine wpAnyH_ready (rs := [10]) (by kernel_rfl) (by simp) ?_
                      refine AllReadyH.cons rfl (fun K hK => ?_) AllReadyH.nil
                      refine step_append_strs _ (by rfl) (.tmp 152) (.tmp 154) (by rfl) wr.heap.size (.slice (some ⟨wr.heap.size + 1 + 1, 0, none⟩) 0 0) 0 [] (by simp [Act.eval]) (own_empty (by exact (HG4.out.block _ (by have := HBL3.out; first | omega | (simp; done) | (simp; omega)) (fun e => by have e : (wr.heap.size + 1 + 1) = (wr.heap.size + 1) := (by injection e); have := HBL3.out; omega)).trans (heap_new _ _ _ (by first | rfl | simp))) (by have := HBL3.out; have := HL4.out; omega)) _ (tsL t) vb (by simp [Act.eval]) (HA3.out.terms.under (by exact Below.grown (Gn.below_drew (Below.alloc (Below.alloc (Below.alloc (Below.refl _ _) (by have := HBL3.out; first | omega | (simp; done) | (simp; omega)) _) (by have := HBL3.out; first | omega | (simp; done) | (simp; omega)) _) (by have := HBL3.out; first | omega | (simp; done) | (simp; omega)) _)) HG4.out (by have := HBL3.out; first | omega | (simp; done) | (simp; omega)) (fun k hk => by have e : (wr.heap.size + 1) = k := (by injection hk); have := HBL3.out; omega))) (by simp [tsL]; omega) (by have := HBL3.out; have := HL4.out; first | omega | (simp; done) | (simp; omega)) ?_
                      intro v5 w5 hown5 hgrow5 hat5
                      rw [show 0 + (tsL t).length = t by simp [tsL]] at hown5
                      obtain ⟨A5, c5, rfl⟩ := Gn.slice_of hown5
                      have hl5 := hgrow5.size
                      try simp at hl5
                      have HL5 := Lib.hid hl5
                      have HO5 := Lib.hid hown5
                      have HG5 := Lib.hid hgrow5
                      have HT5 := Lib.hid hat5
                      clear hown5 hgrow5 hat5 hl5
                      refine hK.out _ _ ((HKW.out _ ((HG5.out.block _ (by have := HBL3.out; have := HL4.out; first | omega | (simp; done) | (simp; omega)) (fun e => by have e : (B) = (wr.heap.size + 1 + 1) := (by injection e); have := HBL3.out; have := HL4.out; omega)).trans ((HG4.out.block _ (by have := HBL3.out; first | omega | (simp; done) | (simp; omega)) (fun e => by have e : (B) = (wr.heap.size + 1) := (by injection e); have := HBL3.out; omega)).trans ((heap_alloc_old _ _ (by have := HBL3.out; first | omega | (simp; done) | (simp; omega))).trans ((heap_alloc_old _ _ (by have := HBL3.out; first | omega | (simp; done) | (simp; omega))).trans ((heap_alloc_old _ _ (by have := HBL3.out; first | omega | (simp; done) | (simp; omega))).trans (rfl)))))))) (fun hHeld => ?_)
                      clear hK K
                      try simp only [Act.put, List.setIfInBounds_toArray, List.set_cons_zero, List.set_cons_succ]
                      refine wpAnyH_take (i := 11) (v := ?_) rfl (by kernel_rfl) (by kernel_rfl) (by kernel_rfl) (fun _ _ _ h => h) (Or.inl ⟨by rfl, ?_⟩) (by assumption) ?_
                      rotate_left
                      · intro w hSw
                        try dsimp only at hSw
                        go_simp
                        try with_reducible rfl
                      try simp only [Act.put, List.setIfInBounds_toArray, List.set_cons_zero, List.set_cons_succ]
                      refine wpAnyH_ready (rs := [13]) (by kernel_rfl) (by simp) ?_
                      refine AllReadyH.cons rfl (fun K hK => ?_) AllReadyH.nil
                      refine step_store_box _ (by rfl) 31 (.tmp 13) (.tmp 156) (by rfl) (wr.heap.size) (.int .i64 st) (.int .i64 n) (.slice A4 n c4) (.slice A5 t c5) (.slice none 0 0) _ _ _ _ _ _ (by simp [Act.eval]) (by simp [Act.eval]) ((HG5.out.block _ (by have := HBL3.out; have := HL4.out; first | omega | (simp; done) | (simp; omega)) (fun e => by have e : (wr.heap.size) = (wr.heap.size + 1 + 1) := (by injection e); have := HBL3.out; have := HL4.out; omega)).trans ((HG4.out.block _ (by have := HBL3.out; first | omega | (simp; done) | (simp; omega)) (fun e => by have e : (wr.heap.size) = (wr.heap.size + 1) := (by injection e); have := HBL3.out; omega)).trans ((heap_alloc_old _ _ (by have := HBL3.out; first | omega | (simp; done) | (simp; omega))).trans ((heap_alloc_old _ _ (by have := HBL3.out; first | omega | (simp; done) | (simp; omega))).trans (heap_new _ _ _ (by first | rfl | simp)))))) (by kernel_rfl) (by simp [Value.oneCell']) ?_
                      intro w6 hbx6 hoth6 hbel6 hsz6
                      try simp at hsz6
                      have HB6 := Lib.hid hbx6
                      have HO6 := Lib.hid hoth6
                      have HE6 := Lib.hid hbel6
                      have HS6 := Lib.hid hsz6
                      clear hbx6 hoth6 hbel6 hsz6
                      refine hK.out _ _ ((HKW.out _ ((HO6.out _ (by have := HBL3.out; have := HBL3.out; have := HL4.out; have := HL5.out; omega)).trans ((HG5.out.block _ (by have := HBL3.out; have := HL4.out; first | omega | (simp; done) | (simp; omega)) (fun e => by have e : (B) = (wr.heap.size + 1 + 1) := (by injection e); have := HBL3.out; have := HL4.out; omega)).trans ((HG4.out.block _ (by have := HBL3.out; first | omega | (simp; done) | (simp; omega)) (fun e => by have e : (B) = (wr.heap.size + 1) := (by injection e); have := HBL3.out; omega)).trans ((heap_alloc_old _ _ (by have := HBL3.out; first | omega | (simp; done) | (simp; omega))).trans ((heap_alloc_old _ _ (by have := HBL3.out; first | omega | (simp; done) | (simp; omega))).trans ((heap_alloc_old _ _ (by have := HBL3.out; first | omega | (simp; done) | (simp; omega))).trans (rfl))))))))) (fun hHeld => ?_)
                      clear hK K
                      try simp only [Act.put, List.setIfInBounds_toArray, List.set_cons_zero, List.set_cons_succ]
                      refine wpAnyH_done (by kernel_rfl) ?_ _
                      refine NoPanic.normal ?_
                      go_wp2_with fail
                      first
                        | go_meet
                        | (rename_i d1 h1; cases h1; go_meet)
                        | (rename_i d1 h1 dd d2 h2; cases h1; cases h2; go_meet)
                        | (rename_i d1 h1 dd d2 h2 de d3 h3; cases h1; cases h2; cases h3; go_meet)
                      exact ⟨_, _, _, rfl, by have := HBL3.out; have := HL4.out; have := HL5.out;  omega, Below.trans (by exact Below.grown (Below.grown (Gn.below_drew (Below.alloc (Below.alloc (Below.alloc (Below.refl _ _) (by have := HBL3.out; first | omega | (simp; done) | (simp; omega)) _) (by have := HBL3.out; first | omega | (simp; done) | (simp; omega)) _) (by have := HBL3.out; first | omega | (simp; done) | (simp; omega)) _)) HG4.out (by have := HBL3.out; first | omega | (simp; done) | (simp; omega)) (fun k hk => by have e : (wr.heap.size + 1) = k := (by injection hk); have := HBL3.out; omega)) HG5.out (by have := HBL3.out; have := HL4.out; first | omega | (simp; done) | (simp; omega)) (fun k hk => by have e : (wr.heap.size + 1 + 1) = k := (by injection hk); have := HBL3.out; have := HL4.out; omega)) (HE6.out _ (by have := HBL3.out; have := HL4.out; have := HL5.out;  omega)), by have := HBL3.out; have := HBE.out; have := HBL3.out; have := HL4.out; have := HL5.out; omega, HB6.out,
                          (StrsAt.of_own (l := nsL n) (by simp [nsL]) HO4.out).keep (by have := HS6.out; have := HBL3.out; have := HL4.out; have := HL5.out; omega) (fun r hp hr => by
                            have e : r = wr.heap.size + 1 ∨ r = wr.heap.size + 1 + 1 + 1 := by
                              rcases HT4.out with h | h
                              · have e := hp.2; rw [h] at e; simp [Value.ownBlock] at e; left; omega
                              · have e := hp.2; rw [h] at e; simp at e; right; omega
                            have := HBL3.out; have := HBE.out; have := HBL3.out; have := HL4.out; have := HL5.out; 
                            exact ⟨⟨⟨by omega, by omega⟩, by simp [Value.ownBlock]⟩, fun j => Gn.cell_same ((HO6.out _ (by omega)).trans ((HG5.out.block _ (by first | omega | (simp; done) | (simp; omega)) (fun e => by have e : r = (wr.heap.size + 1 + 1) := (by injection e); omega)).trans (rfl))) j⟩),
                          (StrsAt.of_own (l := tsL t) (by simp [tsL]) HO5.out).keep (by have := HS6.out; have := HBL3.out; have := HL4.out; have := HL5.out; omega) (fun r hp hr => by
                            have e : r = wr.heap.size + 1 + 1 ∨ r = w4.heap.size := by
                              rcases HT5.out with h | h
                              · have e := hp.2; rw [h] at e; simp [Value.ownBlock] at e; left; omega
                              · have e := hp.2; rw [h] at e; simp at e; right; omega
                            have := HBL3.out; have := HBE.out; have := HBL3.out; have := HL4.out; have := HL5.out; 
                            exact ⟨⟨⟨by omega, by omega⟩, by simp [Value.ownBlock]⟩, fun j => Gn.cell_same ((HO6.out _ (by omega)).trans (rfl)) j⟩), PItems.nil _ _ _ _, Below.refl _ _⟩
                  refine AllReadyH.cons rfl (fun K hK => ?_) AllReadyH.nil
                  · go_simp
                    refine hK.out _ _ ((HKW.out _ ((heap_alloc_old _ _ (by have := HBL3.out; first | omega | (simp; done) | (simp; omega))).trans ((heap_alloc_old _ _ (by have := HBL3.out; first | omega | (simp; done) | (simp; omega))).trans (rfl))))) (fun hHeld => ?_)
                    clear hK K
                    try simp only [Act.put, List.setIfInBounds_toArray, List.set_cons_zero, List.set_cons_succ]
                    refine wpAnyH_ready (rs := [3]) (by kernel_rfl) (by simp) ?_
                    refine AllReadyH.cons rfl (fun K hK => ?_) AllReadyH.nil
                    go_simp
                    refine hK.out _ _ ((HKW.out _ ((heap_alloc_old _ _ (by have := HBL3.out; first | omega | (simp; done) | (simp; omega))).trans ((heap_alloc_old _ _ (by have := HBL3.out; first | omega | (simp; done) | (simp; omega))).trans ((heap_alloc_old _ _ (by have := HBL3.out; first | omega | (simp; done) | (simp; omega))).trans (rfl)))))) (fun hHeld => ?_)
                    clear hK K
                    try simp only [Act.put, List.setIfInBounds_toArray, List.set_cons_zero, List.set_cons_succ]
                    refine wpAnyH_ready (rs := [6]) (by kernel_rfl) (by simp) ?_
                    refine AllReadyH.cons rfl (fun K hK => ?_) AllReadyH.nil
                    refine step_append_strs _ (by rfl) (.tmp 148) (.tmp 150) (by rfl) wr.heap.size (.slice (some ⟨wr.heap.size + 1 + 1, 0, none⟩) 0 0) 0 [] (by simp [Act.eval]) (own_empty (by exact heap_new _ _ _ (by first | rfl | simp)) (by have := HBL3.out; omega)) _ (nsL n) va (by simp [Act.eval]) (HA3.out.names.under (by exact Gn.below_drew (Below.alloc (Below.alloc (Below.alloc (Below.refl _ _) (by have := HBL3.out; first | omega | (simp; done) | (simp; omega)) _) (by have := HBL3.out; first | omega | (simp; done) | (simp; omega)) _) (by have := HBL3.out; first | omega | (simp; done) | (simp; omega)) _))) (by simp [nsL]; omega) (by have := HBL3.out; first | omega | (simp; done) | (simp; omega)) ?_
                    intro v4 w4 hown4 hgrow4 hat4
                    rw [show 0 + (nsL n).length = n by simp [nsL]] at hown4
                    obtain ⟨A4, c4, rfl⟩ := Gn.slice_of hown4
                    have hl4 := hgrow4.size
                    try simp at hl4
                    have HL4 := Lib.hid hl4
                    have HO4 := Lib.hid hown4
                    have HG4 := Lib.hid hgrow4
                    have HT4 := Lib.hid hat4
                    clear hown4 hgrow4 hat4 hl4
                    refine hK.out _ _ ((HKW.out _ ((HG4.out.block _ (by have := HBL3.out; first | omega | (simp; done) | (simp; omega)) (fun e => by have e : (B) = (wr.heap.size + 1 + 1) := (by injection e); have := HBL3.out; omega)).trans ((heap_alloc_old _ _ (by have := HBL3.out; first | omega | (simp; done) | (simp; omega))).trans ((heap_alloc_old _ _ (by have := HBL3.out; first | omega | (simp; done) | (simp; omega))).trans ((heap_alloc_old _ _ (by have := HBL3.out; first | omega | (simp; done) | (simp; omega))).trans (rfl))))))) (fun hHeld => ?_)
                    clear hK K
                    try simp only [Act.put, List.setIfInBounds_toArray, List.set_cons_zero, List.set_cons_succ]
                    refine wpAnyH_ready (rs := [10]) (by kernel_rfl) (by simp) ?_
                    refine AllReadyH.cons rfl (fun K hK => ?_) AllReadyH.nil
                    refine step_append_strs _ (by rfl) (.tmp 152) (.tmp 154) (by rfl) wr.heap.size (.slice (some ⟨wr.heap.size + 1, 0, none⟩) 0 0) 0 [] (by simp [Act.eval]) (own_empty (by exact (HG4.out.block _ (by have := HBL3.out; first | omega | (simp; done) | (simp; omega)) (fun e => by have e : (wr.heap.size + 1) = (wr.heap.size + 1 + 1) := (by injection e); have := HBL3.out; omega)).trans ((heap_alloc_old _ _ (by have := HBL3.out; first | omega | (simp; done) | (simp; omega))).trans (heap_new _ _ _ (by first | rfl | simp)))) (by have := HBL3.out; have := HL4.out; omega)) _ (tsL t) vb (by simp [Act.eval]) (HA3.out.terms.under (by exact Below.grown (Gn.below_drew (Below.alloc (Below.alloc (Below.alloc (Below.refl _ _) (by have := HBL3.out; first | omega | (simp; done) | (simp; omega)) _) (by have := HBL3.out; first | omega | (simp; done) | (simp; omega)) _) (by have := HBL3.out; first | omega | (simp; done) | (simp; omega)) _)) HG4.out (by have := HBL3.out; first | omega | (simp; done) | (simp; omega)) (fun k hk => by have e : (wr.heap.size + 1 + 1) = k := (by injection hk); have := HBL3.out; omega))) (by simp [tsL]; omega) (by have := HBL3.out; have := HL4.out; first | omega | (simp; done) | (simp; omega)) ?_
                    intro v5 w5 hown5 hgrow5 hat5
                    rw [show 0 + (tsL t).length = t by simp [tsL]] at hown5
                    obtain ⟨A5, c5, rfl⟩ := Gn.slice_of hown5
                    have hl5 := hgrow5.size
                    try simp at hl5
                    have HL5 := Lib.hid hl5
                    have HO5 := Lib.hid hown5
                    have HG5 := Lib.hid hgrow5
                    have HT5 := Lib.hid hat5
                    clear hown5 hgrow5 hat5 hl5
                    refine hK.out _ _ ((HKW.out _ ((HG5.out.block _ (by have := HBL3.out; have := HL4.out; first | omega | (simp; done) | (simp; omega)) (fun e => by have e : (B) = (wr.heap.size + 1) := (by injection e); have := HBL3.out; have := HL4.out; omega)).trans ((HG4.out.block _ (by have := HBL3.out; first | omega | (simp; done) | (simp; omega)) (fun e => by have e : (B) = (wr.heap.size + 1 + 1) := (by injection e); have := HBL3.out; omega)).trans ((heap_alloc_old _ _ (by have := HBL3.out; first | omega | (simp; done) | (simp; omega))).trans ((heap_alloc_old _ _ (by have := HBL3.out; first | omega | (simp; done) | (simp; omega))).trans ((heap_alloc_old _ _ (by have := HBL3.out; first | omega | (simp; done) | (simp; omega))).trans (rfl)))))))) (fun hHeld => ?_)
                    clear hK K
                    try simp only [Act.put, List.setIfInBounds_toArray, List.set_cons_zero, List.set_cons_succ]
                    refine wpAnyH_take (i := 11) (v := ?_) rfl (by kernel_rfl) (by kernel_rfl) (by kernel_rfl) (fun _ _ _ h => h) (Or.inl ⟨by rfl, ?_⟩) (by assumption) ?_
                    rotate_left
                    · intro w hSw
                      try dsimp only at hSw
                      go_simp
                      try with_reducible rfl
                    try simp only [Act.put, List.setIfInBounds_toArray, List.set_cons_zero, List.set_cons_succ]
                    refine wpAnyH_ready (rs := [13]) (by kernel_rfl) (by simp) ?_
                    refine AllReadyH.cons rfl (fun K hK => ?_) AllReadyH.nil
                    refine step_store_box _ (by rfl) 31 (.tmp 13) (.tmp 156) (by rfl) (wr.heap.size) (.int .i64 st) (.int .i64 n) (.slice A4 n c4) (.slice A5 t c5) (.slice none 0 0) _ _ _ _ _ _ (by simp [Act.eval]) (by simp [Act.eval]) ((HG5.out.block _ (by have := HBL3.out; have := HL4.out; first | omega | (simp; done) | (simp; omega)) (fun e => by have e : (wr.heap.size) = (wr.heap.size + 1) := (by injection e); have := HBL3.out; have := HL4.out; omega)).trans ((HG4.out.block _ (by have := HBL3.out; first | omega | (simp; done) | (simp; omega)) (fun e => by have e : (wr.heap.size) = (wr.heap.size + 1 + 1) := (by injection e); have := HBL3.out; omega)).trans ((heap_alloc_old _ _ (by have := HBL3.out; first | omega | (simp; done) | (simp; omega))).trans ((heap_alloc_old _ _ (by have := HBL3.out; first | omega | (simp; done) | (simp; omega))).trans (heap_new _ _ _ (by first | rfl | simp)))))) (by kernel_rfl) (by simp [Value.oneCell']) ?_
                    intro w6 hbx6 hoth6 hbel6 hsz6
                    try simp at hsz6
                    have HB6 := Lib.hid hbx6
                    have HO6 := Lib.hid hoth6
                    have HE6 := Lib.hid hbel6
                    have HS6 := Lib.hid hsz6
                    clear hbx6 hoth6 hbel6 hsz6
                    refine hK.out _ _ ((HKW.out _ ((HO6.out _ (by have := HBL3.out; have := HBL3.out; have := HL4.out; have := HL5.out; omega)).trans ((HG5.out.block _ (by have := HBL3.out; have := HL4.out; first | omega | (simp; done) | (simp; omega)) (fun e => by have e : (B) = (wr.heap.size + 1) := (by injection e); have := HBL3.out; have := HL4.out; omega)).trans ((HG4.out.block _ (by have := HBL3.out; first | omega | (simp; done) | (simp; omega)) (fun e => by have e : (B) = (wr.heap.size + 1 + 1) := (by injection e); have := HBL3.out; omega)).trans ((heap_alloc_old _ _ (by have := HBL3.out; first | omega | (simp; done) | (simp; omega))).trans ((heap_alloc_old _ _ (by have := HBL3.out; first | omega | (simp; done) | (simp; omega))).trans ((heap_alloc_old _ _ (by have := HBL3.out; first | omega | (simp; done) | (simp; omega))).trans (rfl))))))))) (fun hHeld => ?_)
                    clear hK K
                    try simp only [Act.put, List.setIfInBounds_toArray, List.set_cons_zero, List.set_cons_succ]
                    refine wpAnyH_done (by kernel_rfl) ?_ _
                    refine NoPanic.normal ?_
                    go_wp2_with fail
                    first
                      | go_meet
                      | (rename_i d1 h1; cases h1; go_meet)
                      | (rename_i d1 h1 dd d2 h2; cases h1; cases h2; go_meet)
                      | (rename_i d1 h1 dd d2 h2 de d3 h3; cases h1; cases h2; cases h3; go_meet)
                    exact ⟨_, _, _, rfl, by have := HBL3.out; have := HL4.out; have := HL5.out;  omega, Below.trans (by exact Below.grown (Below.grown (Gn.below_drew (Below.alloc (Below.alloc (Below.alloc (Below.refl _ _) (by have := HBL3.out; first | omega | (simp; done) | (simp; omega)) _) (by have := HBL3.out; first | omega | (simp; done) | (simp; omega)) _) (by have := HBL3.out; first | omega | (simp; done) | (simp; omega)) _)) HG4.out (by have := HBL3.out; first | omega | (simp; done) | (simp; omega)) (fun k hk => by have e : (wr.heap.size + 1 + 1) = k := (by injection hk); have := HBL3.out; omega)) HG5.out (by have := HBL3.out; have := HL4.out; first | omega | (simp; done) | (simp; omega)) (fun k hk => by have e : (wr.heap.size + 1) = k := (by injection hk); have := HBL3.out; have := HL4.out; omega)) (HE6.out _ (by have := HBL3.out; have := HL4.out; have := HL5.out;  omega)), by have := HBL3.out; have := HBE.out; have := HBL3.out; have := HL4.out; have := HL5.out; omega, HB6.out,
                        (StrsAt.of_own (l := nsL n) (by simp [nsL]) HO4.out).keep (by have := HS6.out; have := HBL3.out; have := HL4.out; have := HL5.out; omega) (fun r hp hr => by
                          have e : r = wr.heap.size + 1 + 1 ∨ r = wr.heap.size + 1 + 1 + 1 := by
                            rcases HT4.out with h | h
                            · have e := hp.2; rw [h] at e; simp [Value.ownBlock] at e; left; omega
                            · have e := hp.2; rw [h] at e; simp at e; right; omega
                          have := HBL3.out; have := HBE.out; have := HBL3.out; have := HL4.out; have := HL5.out; 
                          exact ⟨⟨⟨by omega, by omega⟩, by simp [Value.ownBlock]⟩, fun j => Gn.cell_same ((HO6.out _ (by omega)).trans ((HG5.out.block _ (by first | omega | (simp; done) | (simp; omega)) (fun e => by have e : r = (wr.heap.size + 1) := (by injection e); omega)).trans (rfl))) j⟩),
                        (StrsAt.of_own (l := tsL t) (by simp [tsL]) HO5.out).keep (by have := HS6.out; have := HBL3.out; have := HL4.out; have := HL5.out; omega) (fun r hp hr => by
                          have e : r = wr.heap.size + 1 ∨ r = w4.heap.size := by
                            rcases HT5.out with h | h
                            · have e := hp.2; rw [h] at e; simp [Value.ownBlock] at e; left; omega
                            · have e := hp.2; rw [h] at e; simp at e; right; omega
                          have := HBL3.out; have := HBE.out; have := HBL3.out; have := HL4.out; have := HL5.out; 
                          exact ⟨⟨⟨by omega, by omega⟩, by simp [Value.ownBlock]⟩, fun j => Gn.cell_same ((HO6.out _ (by omega)).trans (rfl)) j⟩), PItems.nil _ _ _ _, Below.refl _ _⟩
              case rest =>
                obtain ⟨B2, va2, vb2, rfl, hB2, hb24, hQ⟩ := hcut
                obtain ⟨wo, rfl⟩ : ∃ wo : World, wo = wr := ⟨_, rfl⟩
                obtain ⟨Ap, cp, bp, fp, hvp, _, hp3, hp4⟩ := HA3.out.prods.prds (fun _ => True) (fun _ _ => trivial)
                subst hvp
                obtain ⟨i3, hi3x, hv0, hv1, hv2⟩ := info_parts ppinfo
                have HQ := Lib.hid hQ
                have HB24 := Lib.hid hb24
                have HP3 := Lib.hid hp3
                have HP4 := Lib.hid hp4
                have HLL := Lib.hid (show l.length ≤ 192 by omega)
                clear hQ hb24 hp3 hp4
                go_wp2_with fail
                go_loopw [14] (fun i w6 => ∃ (j : Nat) (vp2 : Value) (lj : List Prd) (vs2 : List (Value × Value)), j ≤ l.length ∧ i = .int .i64 j ∧ Hid (lj = l.take j) ∧ MkP 31 79 wc B B2 st n va2 vb2 vp2 (nsL n) (tsL t) lj vs2 w6) (fun i _ => l.length - (intOf i).toNat)
                case atStart => exact ⟨0, _, [], [], Nat.zero_le _, rfl, Lib.hid rfl, HQ.out⟩
                case round =>
                  obtain ⟨j, vp2, lj, vs2, hj, rfl, HLJ, hA⟩ := hrel
                  obtain ⟨w6, rfl⟩ : ∃ w6 : World, w6 = wr := ⟨_, rfl⟩
                  obtain ⟨Aq, cq, rfl⟩ := Gn.slice_of hA.prods.2.1
                  have HA6 := Lib.hid hA
                  have hbw6 := HB24.out.trans (hA.below.mono hB2)
                  have HBW6 := Lib.hid hbw6
                  have hA3 := HA3.out.under hbw6
                  have HA36 := Lib.hid hA3
                  have HBL6 := Lib.hid (show (B < wo.heap.size ∧ wo.heap.size ≤ B2 ∧ wo.heap.size ≤ w6.heap.size) ∧ B2 < w6.heap.size from ⟨⟨HBL3.out, hB2, hbw6.size⟩, Gn.heap_lt hA.box⟩)
                  have hx6 := hA3.box
                  have hx4 : w6.cell? ⟨B, 4, none⟩ = some (.slice Ap l.length cp) := cell_of_row _ _ 4 _ _ (0, 0) hx6
                  have hq6 := hA.box
                  have hljl : lj.length = j := by rw [HLJ.out, List.length_take]; omega
                  have hbx5 : w6.cell? ⟨B2, 4, none⟩ = some (.slice Aq lj.length cq) := cell_of_row _ _ 4 _ _ (0, 0) hq6
                  obtain ⟨nq6, hnq6⟩ : ∃ nq6, nq6 = lj.length := ⟨_, rfl⟩
                  rw [← hnq6] at hbx5
                  have HNQ := Lib.hid hnq6
                  have HC6 := Lib.hid (fun (w' : World) (b : Below w6.heap.size w6 w') => (show w'.cell? ⟨B2, 4, none⟩ = some (.slice Aq nq6 cq) by rw [hnq6]; exact cell_of_row _ _ 4 _ _ (0, 0) (HA6.out.under b).box))
                  have HNQ2 := Lib.hid (show nq6 = j by omega)
                  by_cases hlt : j < l.length
                  · obtain ⟨rfl, hbp, _⟩ := HP3.out (by omega)
                    have hpj := HP4.out j hlt
                    have HTK := Lib.hid (show lj ++ [l[j]] = l.take (j + 1) by rw [HLJ.out, List.take_succ_eq_append_getElem hlt])
                    have hsh := HG3.out.short _ (List.getElem_mem hlt)
                    obtain ⟨pj, hpj'⟩ : ∃ pj, pj = l[j] := ⟨_, rfl⟩
                    rw [← hpj'] at hpj HTK hsh
                    obtain ⟨Ar, cr, hfj⟩ := hpj.2.2.form
                    obtain ⟨mr, hmr⟩ : ∃ mr, mr = pj.right.length := ⟨_, rfl⟩
                    rw [← hmr] at hfj
                    rw [hfj] at hpj
                    have HIJ := Lib.hid hpj.2.2
                    have HM6 := Lib.hid (show pj.right.length ≤ 6 from hsh)
                    have HPC := Lib.hid (⟨hpj.1, hpj.2.1⟩ : wo.cell? ⟨bp, j * 2, none⟩ = some (.int .i64 pj.left) ∧ wo.cell? ⟨bp, j * 2 + 1, none⟩ = some (.slice Ar mr cr))
                    have HBP := Lib.hid hbp
                    have HSK := Lib.hid (fun (w' : World) (b : Below wo.heap.size wo w') => (⟨cell_of_row _ _ 4 _ _ (0, 0) (HA3.out.under b).box, (b.cell (p := ⟨bp, j * 2, none⟩) HBP.out).trans HPC.out.1, (b.cell (p := ⟨bp, j * 2 + 1, none⟩) HBP.out).trans HPC.out.2⟩ : w'.cell? ⟨B, 4, none⟩ = some (.slice (some ⟨bp, 0, none⟩) l.length cp) ∧ w'.cell? ⟨bp, j * 2, none⟩ = some (.int .i64 pj.left) ∧ w'.cell? ⟨bp, j * 2 + 1, none⟩ = some (.slice Ar mr cr)))
                    have hlt2 : (j : Int) < (l.length : Int) := by omega
                    clear hA hbw6 hA3 hx6 hq6 hljl hnq6 hpj hpj' hfj hmr hsh hbp
                    go_wp2_with fail
                    refine wp_region_noPanic ?_
                    refine wp_region_held_drew (S := (fun w' => w'.cell? ⟨B, 4, none⟩ = some (.slice (some ⟨bp, 0, none⟩) l.length cp) ∧ w'.cell? ⟨bp, j * 2, none⟩ = some (.int .i64 pj.left) ∧ w'.cell? ⟨bp, j * 2 + 1, none⟩ = some (.slice Ar mr cr))) (by kernel_rfl) ?_ (fun hHeld => ?_)
                    · exact HSK.out _ (Gn.below_drew HBW6.out)
                    refine wpAnyH_take (i := 0) (v := ?_) rfl (by kernel_rfl) (by kernel_rfl) (by kernel_rfl) (fun _ _ _ h => h) (Or.inl ⟨by rfl, ?_⟩) (by assumption) ?_
                    rotate_left
                    · intro w hSw
                      try dsimp only at hSw
                      go_simp
                      try with_reducible rfl
                    try simp only [Act.put, List.setIfInBounds_toArray, List.set_cons_zero, List.set_cons_succ]
                    refine wpAnyH_take (i := 2) (v := ?_) rfl (by kernel_rfl) (by kernel_rfl) (by kernel_rfl) (fun _ _ _ h => h) (Or.inl ⟨by rfl, ?_⟩) (by assumption) ?_
                    rotate_left
                    · intro w hSw
                      try dsimp only at hSw
                      go_simp
                      try with_reducible rfl
                    try simp only [Act.put, List.setIfInBounds_toArray, List.set_cons_zero, List.set_cons_succ]
                    refine wpAnyH_take (i := 3) (v := ?_) rfl (by kernel_rfl) (by kernel_rfl) (by kernel_rfl) (fun _ _ _ h => h) (Or.inl ⟨by rfl, ?_⟩) (by assumption) ?_
                    rotate_left
                    · intro w hSw
                      try dsimp only at hSw
                      go_simp
                      try with_reducible rfl
                    try simp only [Act.put, List.setIfInBounds_toArray, List.set_cons_zero, List.set_cons_succ]
                    refine wpAnyH_take (i := 4) (v := ?_) rfl (by kernel_rfl) (by kernel_rfl) (by kernel_rfl) (fun _ _ _ h => h) (Or.inl ⟨by rfl, ?_⟩) (by assumption) ?_
                    rotate_left
                    · intro w hSw
                      try dsimp only at hSw
                      go_simp
                      try with_reducible rfl
                    try simp only [Act.put, List.setIfInBounds_toArray, List.set_cons_zero, List.set_cons_succ]
                    refine wpAnyH_take (i := 5) (v := ?_) rfl (by kernel_rfl) (by kernel_rfl) (by kernel_rfl) (fun _ _ _ h => h) (Or.inl ⟨by rfl, ?_⟩) (by assumption) ?_
                    rotate_left
                    · intro w hSw
                      try dsimp only at hSw
                      go_simp
                      try with_reducible rfl
                    try simp only [Act.put, List.setIfInBounds_toArray, List.set_cons_zero, List.set_cons_succ]
                    refine wpAnyH_take (i := 6) (v := ?_) rfl (by kernel_rfl) (by kernel_rfl) (by kernel_rfl) (fun _ _ _ h => h) (Or.inl ⟨by rfl, ?_⟩) (by assumption) ?_
                    rotate_left
                    · intro w hSw
                      try dsimp only at hSw
                      go_simp
                      try with_reducible rfl
                    try simp only [Act.put, List.setIfInBounds_toArray, List.set_cons_zero, List.set_cons_succ]
                    refine wpAnyH_take (i := 7) (v := ?_) rfl (by kernel_rfl) (by kernel_rfl) (by kernel_rfl) (fun _ _ _ h => h) (Or.inl ⟨by rfl, ?_⟩) (by assumption) ?_
                    rotate_left
                    · intro w hSw
                      try dsimp only at hSw
                      go_simp
                      try with_reducible rfl
                    try simp only [Act.put, List.setIfInBounds_toArray, List.set_cons_zero, List.set_cons_succ]
                    refine wpAnyH_take (i := 9) (v := ?_) rfl (by kernel_rfl) (by kernel_rfl) (by kernel_rfl) (fun _ _ _ h => h) (Or.inl ⟨by rfl, ?_⟩) (by assumption) ?_
                    rotate_left
                    · intro w hSw
                      try dsimp only at hSw
                      go_simp
                      try with_reducible rfl
                    try simp only [Act.put, List.setIfInBounds_toArray, List.set_cons_zero, List.set_cons_succ]
                    refine wpAnyH_take (i := 10) (v := ?_) rfl (by kernel_rfl) (by kernel_rfl) (by kernel_rfl) (fun _ _ _ h => h) (Or.inl ⟨by rfl, ?_⟩) (by assumption) ?_
                    rotate_left
                    · intro w hSw
                      try dsimp only at hSw
                      go_simp
                      try with_reducible rfl
                    try simp only [Act.put, List.setIfInBounds_toArray, List.set_cons_zero, List.set_cons_succ]
                    refine wpAnyH_take (i := 11) (v := ?_) rfl (by kernel_rfl) (by kernel_rfl) (by kernel_rfl) (fun _ _ _ h => h) (Or.inl ⟨by rfl, ?_⟩) (by assumption) ?_
                    rotate_left
                    · intro w hSw
                      try dsimp only at hSw
                      go_simp
                      try with_reducible rfl
                    try simp only [Act.put, List.setIfInBounds_toArray, List.set_cons_zero, List.set_cons_succ]
                    refine wpAnyH_take (i := 12) (v := ?_) rfl (by kernel_rfl) (by kernel_rfl) (by kernel_rfl) (fun _ _ _ h => h) (Or.inl ⟨by rfl, ?_⟩) (by assumption) ?_
                    rotate_left
                    · intro w hSw
                      try dsimp only at hSw
                      go_simp
                      try with_reducible rfl
                    try simp only [Act.put, List.setIfInBounds_toArray, List.set_cons_zero, List.set_cons_succ]
                    refine wpAnyH_take (i := 13) (v := ?_) rfl (by kernel_rfl) (by kernel_rfl) (by kernel_rfl) (fun _ _ _ h => h) (Or.inl ⟨by rfl, ?_⟩) (by assumption) ?_
                    rotate_left
                    · intro w hSw
                      try dsimp only at hSw
                      go_simp
                      try with_reducible rfl
                    try simp only [Act.put, List.setIfInBounds_toArray, List.set_cons_zero, List.set_cons_succ]
                    refine wpAnyH_take (i := 14) (v := ?_) rfl (by kernel_rfl) (by kernel_rfl) (by kernel_rfl) (fun _ _ _ h => h) (Or.inl ⟨by rfl, ?_⟩) (by assumption) ?_
                    rotate_left
                    · intro w hSw
                      try dsimp only at hSw
                      go_simp
                      try with_reducible rfl
                    try simp only [Act.put, List.setIfInBounds_toArray, List.set_cons_zero, List.set_cons_succ]
                    refine wpAnyH_ready (rs := [1, 8]) (by kernel_rfl) (by simp) ?_
                    refine AllReadyH.cons rfl (fun K hK => ?_) ?_
                    · go_simp
                      refine hK.out _ _ ((HSK.out _ (by repeat (first | exact HBW6.out | (refine Below.grown ?_ HG5.out (by (have := HBL6.out; (try have := HL4.out); (try have := HL5.out); first | omega | (simp; done) | (simp; omega))) (fun k hk => by have := (HA6.out.prods.own_lt k hk).2; have := HBL6.out; omega)) | (refine Below.grown ?_ HG4.out (by (have := HBL6.out; (try have := HL4.out); (try have := HL5.out); first | omega | (simp; done) | (simp; omega))) (by intro k hk; simp [Value.ownBlock] at hk; have := HBL6.out; (try have := HL4.out); (try have := HL5.out); first | omega | (simp; omega))) | (refine Below.alloc ?_ (by (have := HBL6.out; (try have := HL4.out); (try have := HL5.out); first | omega | (simp; done) | (simp; omega))) _) | (refine Below.setCell ?_ (by (have := HBL6.out; (try have := HL4.out); (try have := HL5.out); first | omega | (simp; done) | (simp; omega))) _) | (refine Gn.below_drew ?_))))) (fun hHeld => ?_)
                      clear hK K
                      try simp only [Act.put, List.setIfInBounds_toArray, List.set_cons_zero, List.set_cons_succ]
                      refine wpAnyH_ready (rs := [8]) (by kernel_rfl) (by simp) ?_
                      refine AllReadyH.cons rfl (fun K hK => ?_) AllReadyH.nil
                      go_simp
                      refine hK.out _ _ ((HSK.out _ (by repeat (first | exact HBW6.out | (refine Below.grown ?_ HG5.out (by (have := HBL6.out; (try have := HL4.out); (try have := HL5.out); first | omega | (simp; done) | (simp; omega))) (fun k hk => by have := (HA6.out.prods.own_lt k hk).2; have := HBL6.out; omega)) | (refine Below.grown ?_ HG4.out (by (have := HBL6.out; (try have := HL4.out); (try have := HL5.out); first | omega | (simp; done) | (simp; omega))) (by intro k hk; simp [Value.ownBlock] at hk; have := HBL6.out; (try have := HL4.out); (try have := HL5.out); first | omega | (simp; omega))) | (refine Below.alloc ?_ (by (have := HBL6.out; (try have := HL4.out); (try have := HL5.out); first | omega | (simp; done) | (simp; omega))) _) | (refine Below.setCell ?_ (by (have := HBL6.out; (try have := HL4.out); (try have := HL5.out); first | omega | (simp; done) | (simp; omega))) _) | (refine Gn.below_drew ?_))))) (fun hHeld => ?_)
                      clear hK K
                      try simp only [Act.put, List.setIfInBounds_toArray, List.set_cons_zero, List.set_cons_succ]
                      refine wpAnyH_ready (rs := [15]) (by kernel_rfl) (by simp) ?_
                      refine AllReadyH.cons rfl (fun K hK => ?_) AllReadyH.nil
                      refine step_append_ints _ (by rfl) (.tmp 172) (.tmp 178) (by rfl) w6.heap.size _ 0 [] (by simp [Act.eval]; rfl) (own_empty (heap_new _ _ _ (by first | rfl | (simp; done))) (by (have := HBL6.out; (try have := HL4.out); (try have := HL5.out); first | omega | (simp; done) | (simp; omega)))) (fun _ => True) pj.right (.slice Ar mr cr) (by simp [Act.eval]) (HIJ.out.under (by repeat (first | exact HBW6.out | (refine Below.grown ?_ HG5.out (by (have := HBL6.out; (try have := HL4.out); (try have := HL5.out); first | omega | (simp; done) | (simp; omega))) (fun k hk => by have := (HA6.out.prods.own_lt k hk).2; have := HBL6.out; omega)) | (refine Below.grown ?_ HG4.out (by (have := HBL6.out; (try have := HL4.out); (try have := HL5.out); first | omega | (simp; done) | (simp; omega))) (by intro k hk; simp [Value.ownBlock] at hk; have := HBL6.out; (try have := HL4.out); (try have := HL5.out); first | omega | (simp; omega))) | (refine Below.alloc ?_ (by (have := HBL6.out; (try have := HL4.out); (try have := HL5.out); first | omega | (simp; done) | (simp; omega))) _) | (refine Below.setCell ?_ (by (have := HBL6.out; (try have := HL4.out); (try have := HL5.out); first | omega | (simp; done) | (simp; omega))) _) | (refine Gn.below_drew ?_)))) (by have := HM6.out; omega) (by (have := HBL6.out; (try have := HL4.out); (try have := HL5.out); first | omega | (simp; done) | (simp; omega))) ?_
                      intro v4 w4 hown4 hgrow4 hat4
                      rw [Nat.zero_add, List.nil_append] at hown4
                      obtain ⟨A4, c4, rfl⟩ := Gn.slice_of hown4
                      have hl4 := hgrow4.size
                      simp at hl4
                      have HL4 := Lib.hid hl4
                      have HO4 := Lib.hid hown4
                      have HG4 := Lib.hid hgrow4
                      clear hown4 hgrow4 hat4 hl4
                      have HB64 := Lib.hid (show Below w6.heap.size w6 w4 by repeat (first | exact Below.refl _ _ | (refine Below.grown ?_ HG4.out (by first | omega | (simp; omega) | (simp; done)) (by intro k hk; simp [Value.ownBlock] at hk; first | omega | (simp; omega))) | (refine Below.alloc ?_ (by (have := HBL6.out; (try have := HL4.out); (try have := HL5.out); first | omega | (simp; done) | (simp; omega))) _) | (refine Gn.below_drew ?_)))
                      have HA4 := Lib.hid (HA6.out.under HB64.out)
                      obtain ⟨m4, hm4⟩ : ∃ m4, m4 = pj.right.length := ⟨_, rfl⟩
                      rw [← hm4] at HO4 ⊢
                      have HM4 := Lib.hid hm4
                      clear hm4
                      refine hK.out _ _ ((HSK.out _ (by repeat (first | exact HBW6.out | (refine Below.grown ?_ HG5.out (by (have := HBL6.out; (try have := HL4.out); (try have := HL5.out); first | omega | (simp; done) | (simp; omega))) (fun k hk => by have := (HA6.out.prods.own_lt k hk).2; have := HBL6.out; omega)) | (refine Below.grown ?_ HG4.out (by (have := HBL6.out; (try have := HL4.out); (try have := HL5.out); first | omega | (simp; done) | (simp; omega))) (by intro k hk; simp [Value.ownBlock] at hk; have := HBL6.out; (try have := HL4.out); (try have := HL5.out); first | omega | (simp; omega))) | (refine Below.alloc ?_ (by (have := HBL6.out; (try have := HL4.out); (try have := HL5.out); first | omega | (simp; done) | (simp; omega))) _) | (refine Below.setCell ?_ (by (have := HBL6.out; (try have := HL4.out); (try have := HL5.out); first | omega | (simp; done) | (simp; omega))) _) | (refine Gn.below_drew ?_))))) (fun hHeld => ?_)
                      clear hK K
                      try simp only [Act.put, List.setIfInBounds_toArray, List.set_cons_zero, List.set_cons_succ]
                      refine wpAnyH_take (i := 16) (v := ?_) rfl (by kernel_rfl) (by kernel_rfl) (by kernel_rfl) (fun _ _ _ h => h) (Or.inl ⟨by rfl, ?_⟩) (by assumption) ?_
                      rotate_left
                      · intro w hSw
                        try dsimp only at hSw
                        go_simp
                        try with_reducible rfl
                      try simp only [Act.put, List.setIfInBounds_toArray, List.set_cons_zero, List.set_cons_succ]
                      refine wpAnyH_ready (rs := [17]) (by kernel_rfl) (by simp) ?_
                      refine AllReadyH.cons rfl (fun K hK => ?_) AllReadyH.nil
                      go_simp
                      refine hK.out _ _ ((HSK.out _ (by repeat (first | exact HBW6.out | (refine Below.grown ?_ HG5.out (by (have := HBL6.out; (try have := HL4.out); (try have := HL5.out); first | omega | (simp; done) | (simp; omega))) (fun k hk => by have := (HA6.out.prods.own_lt k hk).2; have := HBL6.out; omega)) | (refine Below.grown ?_ HG4.out (by (have := HBL6.out; (try have := HL4.out); (try have := HL5.out); first | omega | (simp; done) | (simp; omega))) (by intro k hk; simp [Value.ownBlock] at hk; have := HBL6.out; (try have := HL4.out); (try have := HL5.out); first | omega | (simp; omega))) | (refine Below.alloc ?_ (by (have := HBL6.out; (try have := HL4.out); (try have := HL5.out); first | omega | (simp; done) | (simp; omega))) _) | (refine Below.setCell ?_ (by (have := HBL6.out; (try have := HL4.out); (try have := HL5.out); first | omega | (simp; done) | (simp; omega))) _) | (refine Gn.below_drew ?_))))) (fun hHeld => ?_)
                      clear hK K
                      try simp only [Act.put, List.setIfInBounds_toArray, List.set_cons_zero, List.set_cons_succ]
                      refine wpAnyH_ready (rs := [18]) (by kernel_rfl) (by simp) ?_
                      refine AllReadyH.cons rfl (fun K hK => ?_) AllReadyH.nil
                      have hown := (HA4.out.under ((Below.refl w4.heap.size w4).alloc (Nat.le_refl _) (.cells #[.int .i64 pj.left, .slice A4 m4 c4] 79))).prods.2.1
                      refine step_append_lies _ rfl (.tmp 165) (.tmp 181) 29 rfl (B2 + 1) 79 i3 _ 2 32 Try.underlying29 hi3x hv0 hv1 hv2 rfl (by decide) (.slice Aq nq6 cq) nq6 (cells2 vs2) (by simp [Act.eval]) (by rw [HNQ.out]; exact hown) ⟨w4.heap.size, 0, none⟩ 1 1 [.int .i64 pj.left, .slice A4 m4 c4] (by simp [Act.eval]) rfl (Gn.row_new w4 [.int .i64 pj.left, .slice A4 m4 c4] 79 w4.heap.size rfl) (by simp [Value.oneCell']) (by decide) (by have := HLL.out; have := HNQ2.out; unfold maxLen; omega) (by have := HLL.out; have := HNQ2.out; omega) (by have := HBL6.out; have := HL4.out; simp; omega) _ rfl ?_
                      intro gq cap' w5 hown5 hgrow5 hat5 hlt5
                      clear hown
                      have hq := (HA4.out.under ((Below.refl w4.heap.size w4).alloc (Nat.le_refl _) (.cells #[.int .i64 pj.left, .slice A4 m4 c4] 79)))
                      have hB4 : B2 < w4.heap.size := Nat.lt_of_lt_of_le HBL6.out.2 HB64.out.size
                      have hbx5 := (hgrow5.block B2 (by simp; omega) (fun e => by have := (HA6.out.prods.own_lt B2 (by rw [← HNQ.out]; exact e.symm)).2; omega)).trans hq.box
                      have h7 := hq.put pj (u := .slice A4 m4 c4) ((IntsAt.of_own2 HM4.out.symm HO4.out).keep (Nat.le_trans (Nat.le_refl _) (by simp)) (fun r hp hr => ⟨⟨⟨by have := HBL6.out; omega, by have := HBL6.out; omega⟩, fun e => by have := (HA6.out.prods.own_lt r e).1; omega⟩, fun j => Gn.cell_same (heap_alloc_old _ _ hr) j⟩)) (by rw [← HNQ.out]; exact hown5) (by rw [← HNQ.out]; exact hgrow5) (fun g hg => by
                    have hg : gq = g := by injection hg
                    subst hg
                    rcases hat5 with h | h
                    · exact .inl (by rw [← HNQ.out]; exact h)
                    · exact .inr (by omega))
                      have y4 : w5.cell? ⟨B2, 4, none⟩ = some (.slice Aq nq6 cq) := by have := cell_of_row _ _ 4 _ _ (0, 0) hbx5; rw [HNQ.out]; exact this
                      have yf := Gn.frozen_row hbx5 4
                      have hl5 := hgrow5.size
                      simp at hl5
                      have HL5 := Lib.hid hl5
                      have HG5 := Lib.hid (show (w4.alloc (.cells #[.int .i64 pj.left, .slice A4 m4 c4] 79)).grownBy w5 (Value.slice Aq lj.length cq).ownBlock by rw [← HNQ.out]; exact hgrow5)
                      have H7 := Lib.hid h7
                      clear hown5 hgrow5 hat5 hlt5 hq hB4 hbx5 h7 hl5
                      refine hK.out _ _ ((HSK.out _ (by repeat (first | exact HBW6.out | (refine Below.grown ?_ HG5.out (by (have := HBL6.out; (try have := HL4.out); (try have := HL5.out); first | omega | (simp; done) | (simp; omega))) (fun k hk => by have := (HA6.out.prods.own_lt k hk).2; have := HBL6.out; omega)) | (refine Below.grown ?_ HG4.out (by (have := HBL6.out; (try have := HL4.out); (try have := HL5.out); first | omega | (simp; done) | (simp; omega))) (by intro k hk; simp [Value.ownBlock] at hk; have := HBL6.out; (try have := HL4.out); (try have := HL5.out); first | omega | (simp; omega))) | (refine Below.alloc ?_ (by (have := HBL6.out; (try have := HL4.out); (try have := HL5.out); first | omega | (simp; done) | (simp; omega))) _) | (refine Below.setCell ?_ (by (have := HBL6.out; (try have := HL4.out); (try have := HL5.out); first | omega | (simp; done) | (simp; omega))) _) | (refine Gn.below_drew ?_))))) (fun hHeld => ?_)
                      clear hK K
                      try simp only [Act.put, List.setIfInBounds_toArray, List.set_cons_zero, List.set_cons_succ]
                      refine wpAnyH_take (i := 19) (v := ?_) rfl (by kernel_rfl) (by kernel_rfl) (by kernel_rfl) (fun _ _ _ h => h) (Or.inl ⟨by rfl, ?_⟩) (by assumption) ?_
                      rotate_left
                      · intro w hSw
                        try dsimp only at hSw
                        go_simp
                        try with_reducible rfl
                      try simp only [Act.put, List.setIfInBounds_toArray, List.set_cons_zero, List.set_cons_succ]
                      refine wpAnyH_ready (rs := [20]) (by kernel_rfl) (by simp) ?_
                      refine AllReadyH.cons rfl (fun K hK => ?_) AllReadyH.nil
                      go_simp
                      refine hK.out _ _ ((HSK.out _ (by repeat (first | exact HBW6.out | (refine Below.grown ?_ HG5.out (by (have := HBL6.out; (try have := HL4.out); (try have := HL5.out); first | omega | (simp; done) | (simp; omega))) (fun k hk => by have := (HA6.out.prods.own_lt k hk).2; have := HBL6.out; omega)) | (refine Below.grown ?_ HG4.out (by (have := HBL6.out; (try have := HL4.out); (try have := HL5.out); first | omega | (simp; done) | (simp; omega))) (by intro k hk; simp [Value.ownBlock] at hk; have := HBL6.out; (try have := HL4.out); (try have := HL5.out); first | omega | (simp; omega))) | (refine Below.alloc ?_ (by (have := HBL6.out; (try have := HL4.out); (try have := HL5.out); first | omega | (simp; done) | (simp; omega))) _) | (refine Below.setCell ?_ (by (have := HBL6.out; (try have := HL4.out); (try have := HL5.out); first | omega | (simp; done) | (simp; omega))) _) | (refine Gn.below_drew ?_))))) (fun hHeld => ?_)
                      clear hK K
                      try simp only [Act.put, List.setIfInBounds_toArray, List.set_cons_zero, List.set_cons_succ]
                      refine wpAnyH_done (by kernel_rfl) ?_ _
                      refine NoPanic.normal ?_
                      go_wp2_with fail
                      go_roundw
                      case rel => exact ⟨j + 1, _, lj ++ [pj], _, by omega, by simp, Lib.hid HTK.out, by have := H7.out; exact this⟩
                      case measure => simp [intOf]; omega
                    refine AllReadyH.cons rfl (fun K hK => ?_) AllReadyH.nil
                    · go_simp
                      refine hK.out _ _ ((HSK.out _ (by repeat (first | exact HBW6.out | (refine Below.grown ?_ HG5.out (by (have := HBL6.out; (try have := HL4.out); (try have := HL5.out); first | omega | (simp; done) | (simp; omega))) (fun k hk => by have := (HA6.out.prods.own_lt k hk).2; have := HBL6.out; omega)) | (refine Below.grown ?_ HG4.out (by (have := HBL6.out; (try have := HL4.out); (try have := HL5.out); first | omega | (simp; done) | (simp; omega))) (by intro k hk; simp [Value.ownBlock] at hk; have := HBL6.out; (try have := HL4.out); (try have := HL5.out); first | omega | (simp; omega))) | (refine Below.alloc ?_ (by (have := HBL6.out; (try have := HL4.out); (try have := HL5.out); first | omega | (simp; done) | (simp; omega))) _) | (refine Below.setCell ?_ (by (have := HBL6.out; (try have := HL4.out); (try have := HL5.out); first | omega | (simp; done) | (simp; omega))) _) | (refine Gn.below_drew ?_))))) (fun hHeld => ?_)
                      clear hK K
                      try simp only [Act.put, List.setIfInBounds_toArray, List.set_cons_zero, List.set_cons_succ]
                      refine wpAnyH_ready (rs := [1, 15]) (by kernel_rfl) (by simp) ?_
                      refine AllReadyH.cons rfl (fun K hK => ?_) ?_
                      · go_simp
                        rw [HC6.out]
                        rotate_left
                        · repeat (first | exact Below.refl _ _ | (refine Below.grown ?_ HG4.out (by first | omega | (simp; omega) | (simp; done)) (by intro k hk; simp [Value.ownBlock] at hk; first | omega | (simp; omega))) | (refine Below.alloc ?_ (by (have := HBL6.out; (try have := HL4.out); (try have := HL5.out); first | omega | (simp; done) | (simp; omega))) _) | (refine Gn.below_drew ?_))
                        go_simp
                        refine hK.out _ _ ((HSK.out _ (by repeat (first | exact HBW6.out | (refine Below.grown ?_ HG5.out (by (have := HBL6.out; (try have := HL4.out); (try have := HL5.out); first | omega | (simp; done) | (simp; omega))) (fun k hk => by have := (HA6.out.prods.own_lt k hk).2; have := HBL6.out; omega)) | (refine Below.grown ?_ HG4.out (by (have := HBL6.out; (try have := HL4.out); (try have := HL5.out); first | omega | (simp; done) | (simp; omega))) (by intro k hk; simp [Value.ownBlock] at hk; have := HBL6.out; (try have := HL4.out); (try have := HL5.out); first | omega | (simp; omega))) | (refine Below.alloc ?_ (by (have := HBL6.out; (try have := HL4.out); (try have := HL5.out); first | omega | (simp; done) | (simp; omega))) _) | (refine Below.setCell ?_ (by (have := HBL6.out; (try have := HL4.out); (try have := HL5.out); first | omega | (simp; done) | (simp; omega))) _) | (refine Gn.below_drew ?_))))) (fun hHeld => ?_)
                        clear hK K
                        try simp only [Act.put, List.setIfInBounds_toArray, List.set_cons_zero, List.set_cons_succ]
                        refine wpAnyH_ready (rs := [15]) (by kernel_rfl) (by simp) ?_
                        refine AllReadyH.cons rfl (fun K hK => ?_) AllReadyH.nil
                        refine step_append_ints _ (by rfl) (.tmp 172) (.tmp 178) (by rfl) w6.heap.size _ 0 [] (by simp [Act.eval]; rfl) (own_empty (heap_new _ _ _ (by first | rfl | (simp; done))) (by (have := HBL6.out; (try have := HL4.out); (try have := HL5.out); first | omega | (simp; done) | (simp; omega)))) (fun _ => True) pj.right (.slice Ar mr cr) (by simp [Act.eval]) (HIJ.out.under (by repeat (first | exact HBW6.out | (refine Below.grown ?_ HG5.out (by (have := HBL6.out; (try have := HL4.out); (try have := HL5.out); first | omega | (simp; done) | (simp; omega))) (fun k hk => by have := (HA6.out.prods.own_lt k hk).2; have := HBL6.out; omega)) | (refine Below.grown ?_ HG4.out (by (have := HBL6.out; (try have := HL4.out); (try have := HL5.out); first | omega | (simp; done) | (simp; omega))) (by intro k hk; simp [Value.ownBlock] at hk; have := HBL6.out; (try have := HL4.out); (try have := HL5.out); first | omega | (simp; omega))) | (refine Below.alloc ?_ (by (have := HBL6.out; (try have := HL4.out); (try have := HL5.out); first | omega | (simp; done) | (simp; omega))) _) | (refine Below.setCell ?_ (by (have := HBL6.out; (try have := HL4.out); (try have := HL5.out); first | omega | (simp; done) | (simp; omega))) _) | (refine Gn.below_drew ?_)))) (by have := HM6.out; omega) (by (have := HBL6.out; (try have := HL4.out); (try have := HL5.out); first | omega | (simp; done) | (simp; omega))) ?_
                        intro v4 w4 hown4 hgrow4 hat4
                        rw [Nat.zero_add, List.nil_append] at hown4
                        obtain ⟨A4, c4, rfl⟩ := Gn.slice_of hown4
                        have hl4 := hgrow4.size
                        simp at hl4
                        have HL4 := Lib.hid hl4
                        have HO4 := Lib.hid hown4
                        have HG4 := Lib.hid hgrow4
                        clear hown4 hgrow4 hat4 hl4
                        have HB64 := Lib.hid (show Below w6.heap.size w6 w4 by repeat (first | exact Below.refl _ _ | (refine Below.grown ?_ HG4.out (by first | omega | (simp; omega) | (simp; done)) (by intro k hk; simp [Value.ownBlock] at hk; first | omega | (simp; omega))) | (refine Below.alloc ?_ (by (have := HBL6.out; (try have := HL4.out); (try have := HL5.out); first | omega | (simp; done) | (simp; omega))) _) | (refine Gn.below_drew ?_)))
                        have HA4 := Lib.hid (HA6.out.under HB64.out)
                        obtain ⟨m4, hm4⟩ : ∃ m4, m4 = pj.right.length := ⟨_, rfl⟩
                        rw [← hm4] at HO4 ⊢
                        have HM4 := Lib.hid hm4
                        clear hm4
                        refine hK.out _ _ ((HSK.out _ (by repeat (first | exact HBW6.out | (refine Below.grown ?_ HG5.out (by (have := HBL6.out; (try have := HL4.out); (try have := HL5.out); first | omega | (simp; done) | (simp; omega))) (fun k hk => by have := (HA6.out.prods.own_lt k hk).2; have := HBL6.out; omega)) | (refine Below.grown ?_ HG4.out (by (have := HBL6.out; (try have := HL4.out); (try have := HL5.out); first | omega | (simp; done) | (simp; omega))) (by intro k hk; simp [Value.ownBlock] at hk; have := HBL6.out; (try have := HL4.out); (try have := HL5.out); first | omega | (simp; omega))) | (refine Below.alloc ?_ (by (have := HBL6.out; (try have := HL4.out); (try have := HL5.out); first | omega | (simp; done) | (simp; omega))) _) | (refine Below.setCell ?_ (by (have := HBL6.out; (try have := HL4.out); (try have := HL5.out); first | omega | (simp; done) | (simp; omega))) _) | (refine Gn.below_drew ?_))))) (fun hHeld => ?_)
                        clear hK K
                        try simp only [Act.put, List.setIfInBounds_toArray, List.set_cons_zero, List.set_cons_succ]
                        refine wpAnyH_take (i := 16) (v := ?_) rfl (by kernel_rfl) (by kernel_rfl) (by kernel_rfl) (fun _ _ _ h => h) (Or.inl ⟨by rfl, ?_⟩) (by assumption) ?_
                        rotate_left
                        · intro w hSw
                          try dsimp only at hSw
                          go_simp
                          try with_reducible rfl
                        try simp only [Act.put, List.setIfInBounds_toArray, List.set_cons_zero, List.set_cons_succ]
                        refine wpAnyH_ready (rs := [17]) (by kernel_rfl) (by simp) ?_
                        refine AllReadyH.cons rfl (fun K hK => ?_) AllReadyH.nil
                        go_simp
                        refine hK.out _ _ ((HSK.out _ (by repeat (first | exact HBW6.out | (refine Below.grown ?_ HG5.out (by (have := HBL6.out; (try have := HL4.out); (try have := HL5.out); first | omega | (simp; done) | (simp; omega))) (fun k hk => by have := (HA6.out.prods.own_lt k hk).2; have := HBL6.out; omega)) | (refine Below.grown ?_ HG4.out (by (have := HBL6.out; (try have := HL4.out); (try have := HL5.out); first | omega | (simp; done) | (simp; omega))) (by intro k hk; simp [Value.ownBlock] at hk; have := HBL6.out; (try have := HL4.out); (try have := HL5.out); first | omega | (simp; omega))) | (refine Below.alloc ?_ (by (have := HBL6.out; (try have := HL4.out); (try have := HL5.out); first | omega | (simp; done) | (simp; omega))) _) | (refine Below.setCell ?_ (by (have := HBL6.out; (try have := HL4.out); (try have := HL5.out); first | omega | (simp; done) | (simp; omega))) _) | (refine Gn.below_drew ?_))))) (fun hHeld => ?_)
                        clear hK K
                        try simp only [Act.put, List.setIfInBounds_toArray, List.set_cons_zero, List.set_cons_succ]
                        refine wpAnyH_ready (rs := [18]) (by kernel_rfl) (by simp) ?_
                        refine AllReadyH.cons rfl (fun K hK => ?_) AllReadyH.nil
                        have hown := (HA4.out.under ((Below.refl w4.heap.size w4).alloc (Nat.le_refl _) (.cells #[.int .i64 pj.left, .slice A4 m4 c4] 79))).prods.2.1
                        refine step_append_lies _ rfl (.tmp 165) (.tmp 181) 29 rfl (B2 + 1) 79 i3 _ 2 32 Try.underlying29 hi3x hv0 hv1 hv2 rfl (by decide) (.slice Aq nq6 cq) nq6 (cells2 vs2) (by simp [Act.eval]) (by rw [HNQ.out]; exact hown) ⟨w4.heap.size, 0, none⟩ 1 1 [.int .i64 pj.left, .slice A4 m4 c4] (by simp [Act.eval]) rfl (Gn.row_new w4 [.int .i64 pj.left, .slice A4 m4 c4] 79 w4.heap.size rfl) (by simp [Value.oneCell']) (by decide) (by have := HLL.out; have := HNQ2.out; unfold maxLen; omega) (by have := HLL.out; have := HNQ2.out; omega) (by have := HBL6.out; have := HL4.out; simp; omega) _ rfl ?_
                        intro gq cap' w5 hown5 hgrow5 hat5 hlt5
                        clear hown
                        have hq := (HA4.out.under ((Below.refl w4.heap.size w4).alloc (Nat.le_refl _) (.cells #[.int .i64 pj.left, .slice A4 m4 c4] 79)))
                        have hB4 : B2 < w4.heap.size := Nat.lt_of_lt_of_le HBL6.out.2 HB64.out.size
                        have hbx5 := (hgrow5.block B2 (by simp; omega) (fun e => by have := (HA6.out.prods.own_lt B2 (by rw [← HNQ.out]; exact e.symm)).2; omega)).trans hq.box
                        have h7 := hq.put pj (u := .slice A4 m4 c4) ((IntsAt.of_own2 HM4.out.symm HO4.out).keep (Nat.le_trans (Nat.le_refl _) (by simp)) (fun r hp hr => ⟨⟨⟨by have := HBL6.out; omega, by have := HBL6.out; omega⟩, fun e => by have := (HA6.out.prods.own_lt r e).1; omega⟩, fun j => Gn.cell_same (heap_alloc_old _ _ hr) j⟩)) (by rw [← HNQ.out]; exact hown5) (by rw [← HNQ.out]; exact hgrow5) (fun g hg => by
                    have hg : gq = g := by injection hg
                    subst hg
                    rcases hat5 with h | h
                    · exact .inl (by rw [← HNQ.out]; exact h)
                    · exact .inr (by omega))
                        have y4 : w5.cell? ⟨B2, 4, none⟩ = some (.slice Aq nq6 cq) := by have := cell_of_row _ _ 4 _ _ (0, 0) hbx5; rw [HNQ.out]; exact this
                        have yf := Gn.frozen_row hbx5 4
                        have hl5 := hgrow5.size
                        simp at hl5
                        have HL5 := Lib.hid hl5
                        have HG5 := Lib.hid (show (w4.alloc (.cells #[.int .i64 pj.left, .slice A4 m4 c4] 79)).grownBy w5 (Value.slice Aq lj.length cq).ownBlock by rw [← HNQ.out]; exact hgrow5)
                        have H7 := Lib.hid h7
                        clear hown5 hgrow5 hat5 hlt5 hq hB4 hbx5 h7 hl5
                        refine hK.out _ _ ((HSK.out _ (by repeat (first | exact HBW6.out | (refine Below.grown ?_ HG5.out (by (have := HBL6.out; (try have := HL4.out); (try have := HL5.out); first | omega | (simp; done) | (simp; omega))) (fun k hk => by have := (HA6.out.prods.own_lt k hk).2; have := HBL6.out; omega)) | (refine Below.grown ?_ HG4.out (by (have := HBL6.out; (try have := HL4.out); (try have := HL5.out); first | omega | (simp; done) | (simp; omega))) (by intro k hk; simp [Value.ownBlock] at hk; have := HBL6.out; (try have := HL4.out); (try have := HL5.out); first | omega | (simp; omega))) | (refine Below.alloc ?_ (by (have := HBL6.out; (try have := HL4.out); (try have := HL5.out); first | omega | (simp; done) | (simp; omega))) _) | (refine Below.setCell ?_ (by (have := HBL6.out; (try have := HL4.out); (try have := HL5.out); first | omega | (simp; done) | (simp; omega))) _) | (refine Gn.below_drew ?_))))) (fun hHeld => ?_)
                        clear hK K
                        try simp only [Act.put, List.setIfInBounds_toArray, List.set_cons_zero, List.set_cons_succ]
                        refine wpAnyH_take (i := 19) (v := ?_) rfl (by kernel_rfl) (by kernel_rfl) (by kernel_rfl) (fun _ _ _ h => h) (Or.inl ⟨by rfl, ?_⟩) (by assumption) ?_
                        rotate_left
                        · intro w hSw
                          try dsimp only at hSw
                          go_simp
                          try with_reducible rfl
                        try simp only [Act.put, List.setIfInBounds_toArray, List.set_cons_zero, List.set_cons_succ]
                        refine wpAnyH_ready (rs := [20]) (by kernel_rfl) (by simp) ?_
                        refine AllReadyH.cons rfl (fun K hK => ?_) AllReadyH.nil
                        go_simp
                        refine hK.out _ _ ((HSK.out _ (by repeat (first | exact HBW6.out | (refine Below.grown ?_ HG5.out (by (have := HBL6.out; (try have := HL4.out); (try have := HL5.out); first | omega | (simp; done) | (simp; omega))) (fun k hk => by have := (HA6.out.prods.own_lt k hk).2; have := HBL6.out; omega)) | (refine Below.grown ?_ HG4.out (by (have := HBL6.out; (try have := HL4.out); (try have := HL5.out); first | omega | (simp; done) | (simp; omega))) (by intro k hk; simp [Value.ownBlock] at hk; have := HBL6.out; (try have := HL4.out); (try have := HL5.out); first | omega | (simp; omega))) | (refine Below.alloc ?_ (by (have := HBL6.out; (try have := HL4.out); (try have := HL5.out); first | omega | (simp; done) | (simp; omega))) _) | (refine Below.setCell ?_ (by (have := HBL6.out; (try have := HL4.out); (try have := HL5.out); first | omega | (simp; done) | (simp; omega))) _) | (refine Gn.below_drew ?_))))) (fun hHeld => ?_)
                        clear hK K
                        try simp only [Act.put, List.setIfInBounds_toArray, List.set_cons_zero, List.set_cons_succ]
                        refine wpAnyH_done (by kernel_rfl) ?_ _
                        refine NoPanic.normal ?_
                        go_wp2_with fail
                        go_roundw
                        case rel => exact ⟨j + 1, _, lj ++ [pj], _, by omega, by simp, Lib.hid HTK.out, by have := H7.out; exact this⟩
                        case measure => simp [intOf]; omega
                      refine AllReadyH.cons rfl (fun K hK => ?_) AllReadyH.nil
                      · refine step_append_ints _ (by rfl) (.tmp 172) (.tmp 178) (by rfl) w6.heap.size _ 0 [] (by simp [Act.eval]; rfl) (own_empty (heap_new _ _ _ (by first | rfl | (simp; done))) (by (have := HBL6.out; (try have := HL4.out); (try have := HL5.out); first | omega | (simp; done) | (simp; omega)))) (fun _ => True) pj.right (.slice Ar mr cr) (by simp [Act.eval]) (HIJ.out.under (by repeat (first | exact HBW6.out | (refine Below.grown ?_ HG5.out (by (have := HBL6.out; (try have := HL4.out); (try have := HL5.out); first | omega | (simp; done) | (simp; omega))) (fun k hk => by have := (HA6.out.prods.own_lt k hk).2; have := HBL6.out; omega)) | (refine Below.grown ?_ HG4.out (by (have := HBL6.out; (try have := HL4.out); (try have := HL5.out); first | omega | (simp; done) | (simp; omega))) (by intro k hk; simp [Value.ownBlock] at hk; have := HBL6.out; (try have := HL4.out); (try have := HL5.out); first | omega | (simp; omega))) | (refine Below.alloc ?_ (by (have := HBL6.out; (try have := HL4.out); (try have := HL5.out); first | omega | (simp; done) | (simp; omega))) _) | (refine Below.setCell ?_ (by (have := HBL6.out; (try have := HL4.out); (try have := HL5.out); first | omega | (simp; done) | (simp; omega))) _) | (refine Gn.below_drew ?_)))) (by have := HM6.out; omega) (by (have := HBL6.out; (try have := HL4.out); (try have := HL5.out); first | omega | (simp; done) | (simp; omega))) ?_
                        intro v4 w4 hown4 hgrow4 hat4
                        rw [Nat.zero_add, List.nil_append] at hown4
                        obtain ⟨A4, c4, rfl⟩ := Gn.slice_of hown4
                        have hl4 := hgrow4.size
                        simp at hl4
                        have HL4 := Lib.hid hl4
                        have HO4 := Lib.hid hown4
                        have HG4 := Lib.hid hgrow4
                        clear hown4 hgrow4 hat4 hl4
                        have HB64 := Lib.hid (show Below w6.heap.size w6 w4 by repeat (first | exact Below.refl _ _ | (refine Below.grown ?_ HG4.out (by first | omega | (simp; omega) | (simp; done)) (by intro k hk; simp [Value.ownBlock] at hk; first | omega | (simp; omega))) | (refine Below.alloc ?_ (by (have := HBL6.out; (try have := HL4.out); (try have := HL5.out); first | omega | (simp; done) | (simp; omega))) _) | (refine Gn.below_drew ?_)))
                        have HA4 := Lib.hid (HA6.out.under HB64.out)
                        obtain ⟨m4, hm4⟩ : ∃ m4, m4 = pj.right.length := ⟨_, rfl⟩
                        rw [← hm4] at HO4 ⊢
                        have HM4 := Lib.hid hm4
                        clear hm4
                        refine hK.out _ _ ((HSK.out _ (by repeat (first | exact HBW6.out | (refine Below.grown ?_ HG5.out (by (have := HBL6.out; (try have := HL4.out); (try have := HL5.out); first | omega | (simp; done) | (simp; omega))) (fun k hk => by have := (HA6.out.prods.own_lt k hk).2; have := HBL6.out; omega)) | (refine Below.grown ?_ HG4.out (by (have := HBL6.out; (try have := HL4.out); (try have := HL5.out); first | omega | (simp; done) | (simp; omega))) (by intro k hk; simp [Value.ownBlock] at hk; have := HBL6.out; (try have := HL4.out); (try have := HL5.out); first | omega | (simp; omega))) | (refine Below.alloc ?_ (by (have := HBL6.out; (try have := HL4.out); (try have := HL5.out); first | omega | (simp; done) | (simp; omega))) _) | (refine Below.setCell ?_ (by (have := HBL6.out; (try have := HL4.out); (try have := HL5.out); first | omega | (simp; done) | (simp; omega))) _) | (refine Gn.below_drew ?_))))) (fun hHeld => ?_)
                        clear hK K
                        try simp only [Act.put, List.setIfInBounds_toArray, List.set_cons_zero, List.set_cons_succ]
                        refine wpAnyH_take (i := 16) (v := ?_) rfl (by kernel_rfl) (by kernel_rfl) (by kernel_rfl) (fun _ _ _ h => h) (Or.inl ⟨by rfl, ?_⟩) (by assumption) ?_
                        rotate_left
                        · intro w hSw
                          try dsimp only at hSw
                          go_simp
                          try with_reducible rfl
                        try simp only [Act.put, List.setIfInBounds_toArray, List.set_cons_zero, List.set_cons_succ]
                        refine wpAnyH_ready (rs := [1, 17]) (by kernel_rfl) (by simp) ?_
                        refine AllReadyH.cons rfl (fun K hK => ?_) ?_
                        · go_simp
                          rw [HC6.out]
                          rotate_left
                          · repeat (first | exact Below.refl _ _ | (refine Below.grown ?_ HG4.out (by first | omega | (simp; omega) | (simp; done)) (by intro k hk; simp [Value.ownBlock] at hk; first | omega | (simp; omega))) | (refine Below.alloc ?_ (by (have := HBL6.out; (try have := HL4.out); (try have := HL5.out); first | omega | (simp; done) | (simp; omega))) _) | (refine Gn.below_drew ?_))
                          go_simp
                          refine hK.out _ _ ((HSK.out _ (by repeat (first | exact HBW6.out | (refine Below.grown ?_ HG5.out (by (have := HBL6.out; (try have := HL4.out); (try have := HL5.out); first | omega | (simp; done) | (simp; omega))) (fun k hk => by have := (HA6.out.prods.own_lt k hk).2; have := HBL6.out; omega)) | (refine Below.grown ?_ HG4.out (by (have := HBL6.out; (try have := HL4.out); (try have := HL5.out); first | omega | (simp; done) | (simp; omega))) (by intro k hk; simp [Value.ownBlock] at hk; have := HBL6.out; (try have := HL4.out); (try have := HL5.out); first | omega | (simp; omega))) | (refine Below.alloc ?_ (by (have := HBL6.out; (try have := HL4.out); (try have := HL5.out); first | omega | (simp; done) | (simp; omega))) _) | (refine Below.setCell ?_ (by (have := HBL6.out; (try have := HL4.out); (try have := HL5.out); first | omega | (simp; done) | (simp; omega))) _) | (refine Gn.below_drew ?_))))) (fun hHeld => ?_)
                          clear hK K
                          try simp only [Act.put, List.setIfInBounds_toArray, List.set_cons_zero, List.set_cons_succ]
                          refine wpAnyH_ready (rs := [17]) (by kernel_rfl) (by simp) ?_
                          refine AllReadyH.cons rfl (fun K hK => ?_) AllReadyH.nil
                          go_simp
                          refine hK.out _ _ ((HSK.out _ (by repeat (first | exact HBW6.out | (refine Below.grown ?_ HG5.out (by (have := HBL6.out; (try have := HL4.out); (try have := HL5.out); first | omega | (simp; done) | (simp; omega))) (fun k hk => by have := (HA6.out.prods.own_lt k hk).2; have := HBL6.out; omega)) | (refine Below.grown ?_ HG4.out (by (have := HBL6.out; (try have := HL4.out); (try have := HL5.out); first | omega | (simp; done) | (simp; omega))) (by intro k hk; simp [Value.ownBlock] at hk; have := HBL6.out; (try have := HL4.out); (try have := HL5.out); first | omega | (simp; omega))) | (refine Below.alloc ?_ (by (have := HBL6.out; (try have := HL4.out); (try have := HL5.out); first | omega | (simp; done) | (simp; omega))) _) | (refine Below.setCell ?_ (by (have := HBL6.out; (try have := HL4.out); (try have := HL5.out); first | omega | (simp; done) | (simp; omega))) _) | (refine Gn.below_drew ?_))))) (fun hHeld => ?_)
                          clear hK K
                          try simp only [Act.put, List.setIfInBounds_toArray, List.set_cons_zero, List.set_cons_succ]
                          refine wpAnyH_ready (rs := [18]) (by kernel_rfl) (by simp) ?_
                          refine AllReadyH.cons rfl (fun K hK => ?_) AllReadyH.nil
                          have hown := (HA4.out.under ((Below.refl w4.heap.size w4).alloc (Nat.le_refl _) (.cells #[.int .i64 pj.left, .slice A4 m4 c4] 79))).prods.2.1
                          refine step_append_lies _ rfl (.tmp 165) (.tmp 181) 29 rfl (B2 + 1) 79 i3 _ 2 32 Try.underlying29 hi3x hv0 hv1 hv2 rfl (by decide) (.slice Aq nq6 cq) nq6 (cells2 vs2) (by simp [Act.eval]) (by rw [HNQ.out]; exact hown) ⟨w4.heap.size, 0, none⟩ 1 1 [.int .i64 pj.left, .slice A4 m4 c4] (by simp [Act.eval]) rfl (Gn.row_new w4 [.int .i64 pj.left, .slice A4 m4 c4] 79 w4.heap.size rfl) (by simp [Value.oneCell']) (by decide) (by have := HLL.out; have := HNQ2.out; unfold maxLen; omega) (by have := HLL.out; have := HNQ2.out; omega) (by have := HBL6.out; have := HL4.out; simp; omega) _ rfl ?_
                          intro gq cap' w5 hown5 hgrow5 hat5 hlt5
                          clear hown
                          have hq := (HA4.out.under ((Below.refl w4.heap.size w4).alloc (Nat.le_refl _) (.cells #[.int .i64 pj.left, .slice A4 m4 c4] 79)))
                          have hB4 : B2 < w4.heap.size := Nat.lt_of_lt_of_le HBL6.out.2 HB64.out.size
                          have hbx5 := (hgrow5.block B2 (by simp; omega) (fun e => by have := (HA6.out.prods.own_lt B2 (by rw [← HNQ.out]; exact e.symm)).2; omega)).trans hq.box
                          have h7 := hq.put pj (u := .slice A4 m4 c4) ((IntsAt.of_own2 HM4.out.symm HO4.out).keep (Nat.le_trans (Nat.le_refl _) (by simp)) (fun r hp hr => ⟨⟨⟨by have := HBL6.out; omega, by have := HBL6.out; omega⟩, fun e => by have := (HA6.out.prods.own_lt r e).1; omega⟩, fun j => Gn.cell_same (heap_alloc_old _ _ hr) j⟩)) (by rw [← HNQ.out]; exact hown5) (by rw [← HNQ.out]; exact hgrow5) (fun g hg => by
                    have hg : gq = g := by injection hg
                    subst hg
                    rcases hat5 with h | h
                    · exact .inl (by rw [← HNQ.out]; exact h)
                    · exact .inr (by omega))
                          have y4 : w5.cell? ⟨B2, 4, none⟩ = some (.slice Aq nq6 cq) := by have := cell_of_row _ _ 4 _ _ (0, 0) hbx5; rw [HNQ.out]; exact this
                          have yf := Gn.frozen_row hbx5 4
                          have hl5 := hgrow5.size
                          simp at hl5
                          have HL5 := Lib.hid hl5
                          have HG5 := Lib.hid (show (w4.alloc (.cells #[.int .i64 pj.left, .slice A4 m4 c4] 79)).grownBy w5 (Value.slice Aq lj.length cq).ownBlock by rw [← HNQ.out]; exact hgrow5)
                          have H7 := Lib.hid h7
                          clear hown5 hgrow5 hat5 hlt5 hq hB4 hbx5 h7 hl5
                          refine hK.out _ _ ((HSK.out _ (by repeat (first | exact HBW6.out | (refine Below.grown ?_ HG5.out (by (have := HBL6.out; (try have := HL4.out); (try have := HL5.out); first | omega | (simp; done) | (simp; omega))) (fun k hk => by have := (HA6.out.prods.own_lt k hk).2; have := HBL6.out; omega)) | (refine Below.grown ?_ HG4.out (by (have := HBL6.out; (try have := HL4.out); (try have := HL5.out); first | omega | (simp; done) | (simp; omega))) (by intro k hk; simp [Value.ownBlock] at hk; have := HBL6.out; (try have := HL4.out); (try have := HL5.out); first | omega | (simp; omega))) | (refine Below.alloc ?_ (by (have := HBL6.out; (try have := HL4.out); (try have := HL5.out); first | omega | (simp; done) | (simp; omega))) _) | (refine Below.setCell ?_ (by (have := HBL6.out; (try have := HL4.out); (try have := HL5.out); first | omega | (simp; done) | (simp; omega))) _) | (refine Gn.below_drew ?_))))) (fun hHeld => ?_)
                          clear hK K
                          try simp only [Act.put, List.setIfInBounds_toArray, List.set_cons_zero, List.set_cons_succ]
                          refine wpAnyH_take (i := 19) (v := ?_) rfl (by kernel_rfl) (by kernel_rfl) (by kernel_rfl) (fun _ _ _ h => h) (Or.inl ⟨by rfl, ?_⟩) (by assumption) ?_
                          rotate_left
                          · intro w hSw
                            try dsimp only at hSw
                            go_simp
                            try with_reducible rfl
                          try simp only [Act.put, List.setIfInBounds_toArray, List.set_cons_zero, List.set_cons_succ]
                          refine wpAnyH_ready (rs := [20]) (by kernel_rfl) (by simp) ?_
                          refine AllReadyH.cons rfl (fun K hK => ?_) AllReadyH.nil
                          go_simp
                          refine hK.out _ _ ((HSK.out _ (by repeat (first | exact HBW6.out | (refine Below.grown ?_ HG5.out (by (have := HBL6.out; (try have := HL4.out); (try have := HL5.out); first | omega | (simp; done) | (simp; omega))) (fun k hk => by have := (HA6.out.prods.own_lt k hk).2; have := HBL6.out; omega)) | (refine Below.grown ?_ HG4.out (by (have := HBL6.out; (try have := HL4.out); (try have := HL5.out); first | omega | (simp; done) | (simp; omega))) (by intro k hk; simp [Value.ownBlock] at hk; have := HBL6.out; (try have := HL4.out); (try have := HL5.out); first | omega | (simp; omega))) | (refine Below.alloc ?_ (by (have := HBL6.out; (try have := HL4.out); (try have := HL5.out); first | omega | (simp; done) | (simp; omega))) _) | (refine Below.setCell ?_ (by (have := HBL6.out; (try have := HL4.out); (try have := HL5.out); first | omega | (simp; done) | (simp; omega))) _) | (refine Gn.below_drew ?_))))) (fun hHeld => ?_)
                          clear hK K
                          try simp only [Act.put, List.setIfInBounds_toArray, List.set_cons_zero, List.set_cons_succ]
                          refine wpAnyH_done (by kernel_rfl) ?_ _
                          refine NoPanic.normal ?_
                          go_wp2_with fail
                          go_roundw
                          case rel => exact ⟨j + 1, _, lj ++ [pj], _, by omega, by simp, Lib.hid HTK.out, by have := H7.out; exact this⟩
                          case measure => simp [intOf]; omega
                        refine AllReadyH.cons rfl (fun K hK => ?_) AllReadyH.nil
                        · go_simp
                          refine hK.out _ _ ((HSK.out _ (by repeat (first | exact HBW6.out | (refine Below.grown ?_ HG5.out (by (have := HBL6.out; (try have := HL4.out); (try have := HL5.out); first | omega | (simp; done) | (simp; omega))) (fun k hk => by have := (HA6.out.prods.own_lt k hk).2; have := HBL6.out; omega)) | (refine Below.grown ?_ HG4.out (by (have := HBL6.out; (try have := HL4.out); (try have := HL5.out); first | omega | (simp; done) | (simp; omega))) (by intro k hk; simp [Value.ownBlock] at hk; have := HBL6.out; (try have := HL4.out); (try have := HL5.out); first | omega | (simp; omega))) | (refine Below.alloc ?_ (by (have := HBL6.out; (try have := HL4.out); (try have := HL5.out); first | omega | (simp; done) | (simp; omega))) _) | (refine Below.setCell ?_ (by (have := HBL6.out; (try have := HL4.out); (try have := HL5.out); first | omega | (simp; done) | (simp; omega))) _) | (refine Gn.below_drew ?_))))) (fun hHeld => ?_)
                          clear hK K
                          try simp only [Act.put, List.setIfInBounds_toArray, List.set_cons_zero, List.set_cons_succ]
                          refine wpAnyH_ready (rs := [1]) (by kernel_rfl) (by simp) ?_
                          refine AllReadyH.cons rfl (fun K hK => ?_) AllReadyH.nil
                          go_simp
                          rw [HC6.out]
                          rotate_left
                          · repeat (first | exact Below.refl _ _ | (refine Below.grown ?_ HG4.out (by first | omega | (simp; omega) | (simp; done)) (by intro k hk; simp [Value.ownBlock] at hk; first | omega | (simp; omega))) | (refine Below.alloc ?_ (by (have := HBL6.out; (try have := HL4.out); (try have := HL5.out); first | omega | (simp; done) | (simp; omega))) _) | (refine Gn.below_drew ?_))
                          go_simp
                          refine hK.out _ _ ((HSK.out _ (by repeat (first | exact HBW6.out | (refine Below.grown ?_ HG5.out (by (have := HBL6.out; (try have := HL4.out); (try have := HL5.out); first | omega | (simp; done) | (simp; omega))) (fun k hk => by have := (HA6.out.prods.own_lt k hk).2; have := HBL6.out; omega)) | (refine Below.grown ?_ HG4.out (by (have := HBL6.out; (try have := HL4.out); (try have := HL5.out); first | omega | (simp; done) | (simp; omega))) (by intro k hk; simp [Value.ownBlock] at hk; have := HBL6.out; (try have := HL4.out); (try have := HL5.out); first | omega | (simp; omega))) | (refine Below.alloc ?_ (by (have := HBL6.out; (try have := HL4.out); (try have := HL5.out); first | omega | (simp; done) | (simp; omega))) _) | (refine Below.setCell ?_ (by (have := HBL6.out; (try have := HL4.out); (try have := HL5.out); first | omega | (simp; done) | (simp; omega))) _) | (refine Gn.below_drew ?_))))) (fun hHeld => ?_)
                          clear hK K
                          try simp only [Act.put, List.setIfInBounds_toArray, List.set_cons_zero, List.set_cons_succ]
                          refine wpAnyH_ready (rs := [18]) (by kernel_rfl) (by simp) ?_
                          refine AllReadyH.cons rfl (fun K hK => ?_) AllReadyH.nil
                          have hown := (HA4.out.under ((Below.refl w4.heap.size w4).alloc (Nat.le_refl _) (.cells #[.int .i64 pj.left, .slice A4 m4 c4] 79))).prods.2.1
                          refine step_append_lies _ rfl (.tmp 165) (.tmp 181) 29 rfl (B2 + 1) 79 i3 _ 2 32 Try.underlying29 hi3x hv0 hv1 hv2 rfl (by decide) (.slice Aq nq6 cq) nq6 (cells2 vs2) (by simp [Act.eval]) (by rw [HNQ.out]; exact hown) ⟨w4.heap.size, 0, none⟩ 1 1 [.int .i64 pj.left, .slice A4 m4 c4] (by simp [Act.eval]) rfl (Gn.row_new w4 [.int .i64 pj.left, .slice A4 m4 c4] 79 w4.heap.size rfl) (by simp [Value.oneCell']) (by decide) (by have := HLL.out; have := HNQ2.out; unfold maxLen; omega) (by have := HLL.out; have := HNQ2.out; omega) (by have := HBL6.out; have := HL4.out; simp; omega) _ rfl ?_
                          intro gq cap' w5 hown5 hgrow5 hat5 hlt5
                          clear hown
                          have hq := (HA4.out.under ((Below.refl w4.heap.size w4).alloc (Nat.le_refl _) (.cells #[.int .i64 pj.left, .slice A4 m4 c4] 79)))
                          have hB4 : B2 < w4.heap.size := Nat.lt_of_lt_of_le HBL6.out.2 HB64.out.size
                          have hbx5 := (hgrow5.block B2 (by simp; omega) (fun e => by have := (HA6.out.prods.own_lt B2 (by rw [← HNQ.out]; exact e.symm)).2; omega)).trans hq.box
                          have h7 := hq.put pj (u := .slice A4 m4 c4) ((IntsAt.of_own2 HM4.out.symm HO4.out).keep (Nat.le_trans (Nat.le_refl _) (by simp)) (fun r hp hr => ⟨⟨⟨by have := HBL6.out; omega, by have := HBL6.out; omega⟩, fun e => by have := (HA6.out.prods.own_lt r e).1; omega⟩, fun j => Gn.cell_same (heap_alloc_old _ _ hr) j⟩)) (by rw [← HNQ.out]; exact hown5) (by rw [← HNQ.out]; exact hgrow5) (fun g hg => by
                    have hg : gq = g := by injection hg
                    subst hg
                    rcases hat5 with h | h
                    · exact .inl (by rw [← HNQ.out]; exact h)
                    · exact .inr (by omega))
                          have y4 : w5.cell? ⟨B2, 4, none⟩ = some (.slice Aq nq6 cq) := by have := cell_of_row _ _ 4 _ _ (0, 0) hbx5; rw [HNQ.out]; exact this
                          have yf := Gn.frozen_row hbx5 4
                          have hl5 := hgrow5.size
                          simp at hl5
                          have HL5 := Lib.hid hl5
                          have HG5 := Lib.hid (show (w4.alloc (.cells #[.int .i64 pj.left, .slice A4 m4 c4] 79)).grownBy w5 (Value.slice Aq lj.length cq).ownBlock by rw [← HNQ.out]; exact hgrow5)
                          have H7 := Lib.hid h7
                          clear hown5 hgrow5 hat5 hlt5 hq hB4 hbx5 h7 hl5
                          refine hK.out _ _ ((HSK.out _ (by repeat (first | exact HBW6.out | (refine Below.grown ?_ HG5.out (by (have := HBL6.out; (try have := HL4.out); (try have := HL5.out); first | omega | (simp; done) | (simp; omega))) (fun k hk => by have := (HA6.out.prods.own_lt k hk).2; have := HBL6.out; omega)) | (refine Below.grown ?_ HG4.out (by (have := HBL6.out; (try have := HL4.out); (try have := HL5.out); first | omega | (simp; done) | (simp; omega))) (by intro k hk; simp [Value.ownBlock] at hk; have := HBL6.out; (try have := HL4.out); (try have := HL5.out); first | omega | (simp; omega))) | (refine Below.alloc ?_ (by (have := HBL6.out; (try have := HL4.out); (try have := HL5.out); first | omega | (simp; done) | (simp; omega))) _) | (refine Below.setCell ?_ (by (have := HBL6.out; (try have := HL4.out); (try have := HL5.out); first | omega | (simp; done) | (simp; omega))) _) | (refine Gn.below_drew ?_))))) (fun hHeld => ?_)
                          clear hK K
                          try simp only [Act.put, List.setIfInBounds_toArray, List.set_cons_zero, List.set_cons_succ]
                          refine wpAnyH_take (i := 19) (v := ?_) rfl (by kernel_rfl) (by kernel_rfl) (by kernel_rfl) (fun _ _ _ h => h) (Or.inl ⟨by rfl, ?_⟩) (by assumption) ?_
                          rotate_left
                          · intro w hSw
                            try dsimp only at hSw
                            go_simp
                            try with_reducible rfl
                          try simp only [Act.put, List.setIfInBounds_toArray, List.set_cons_zero, List.set_cons_succ]
                          refine wpAnyH_ready (rs := [20]) (by kernel_rfl) (by simp) ?_
                          refine AllReadyH.cons rfl (fun K hK => ?_) AllReadyH.nil
                          go_simp
                          refine hK.out _ _ ((HSK.out _ (by repeat (first | exact HBW6.out | (refine Below.grown ?_ HG5.out (by (have := HBL6.out; (try have := HL4.out); (try have := HL5.out); first | omega | (simp; done) | (simp; omega))) (fun k hk => by have := (HA6.out.prods.own_lt k hk).2; have := HBL6.out; omega)) | (refine Below.grown ?_ HG4.out (by (have := HBL6.out; (try have := HL4.out); (try have := HL5.out); first | omega | (simp; done) | (simp; omega))) (by intro k hk; simp [Value.ownBlock] at hk; have := HBL6.out; (try have := HL4.out); (try have := HL5.out); first | omega | (simp; omega))) | (refine Below.alloc ?_ (by (have := HBL6.out; (try have := HL4.out); (try have := HL5.out); first | omega | (simp; done) | (simp; omega))) _) | (refine Below.setCell ?_ (by (have := HBL6.out; (try have := HL4.out); (try have := HL5.out); first | omega | (simp; done) | (simp; omega))) _) | (refine Gn.below_drew ?_))))) (fun hHeld => ?_)
                          clear hK K
                          try simp only [Act.put, List.setIfInBounds_toArray, List.set_cons_zero, List.set_cons_succ]
                          refine wpAnyH_done (by kernel_rfl) ?_ _
                          refine NoPanic.normal ?_
                          go_wp2_with fail
                          go_roundw
                          case rel => exact ⟨j + 1, _, lj ++ [pj], _, by omega, by simp, Lib.hid HTK.out, by have := H7.out; exact this⟩
                          case measure => simp [intOf]; omega
                  · obtain rfl : j = l.length := by omega
                    have hlj : l = lj := by rw [HLJ.out, List.take_length]
                    subst hlj
                    obtain ⟨Av2, cv2, hva2⟩ := HA6.out.names.form
                    obtain ⟨At2, ct2, hvb2⟩ := HA6.out.terms.form
                    subst hva2
                    subst hvb2
                    obtain ⟨Av, cv, hva⟩ := HA36.out.names.form
                    obtain ⟨At, ct, hvb⟩ := HA36.out.terms.form
                    subst hva
                    subst hvb
                    have HR2W := Lib.hid ((HA36.out.below.block (W.heap.size + 1) (by have := HBE.out; omega)).trans HR2B.out)
                    have HR3W := Lib.hid ((HA36.out.below.block (W.heap.size + 1 + 1) (by have := HBE.out; omega)).trans HR3B.out)
                    have HSK2 := Lib.hid (fun (w' : World) (e2 : w'.heap[B2]? = w6.heap[B2]?) (e : w'.heap[B]? = w6.heap[B]?) => (⟨⟨cell_of_row _ _ 0 _ _ (0, 0) (e2.trans HA6.out.box), cell_of_row _ _ 1 _ _ (0, 0) (e2.trans HA6.out.box), cell_of_row _ _ 2 _ _ (0, 0) (e2.trans HA6.out.box), cell_of_row _ _ 3 _ _ (0, 0) (e2.trans HA6.out.box), by rw [HNQ.out]; exact cell_of_row _ _ 4 _ _ (0, 0) (e2.trans HA6.out.box)⟩, ⟨cell_of_row _ _ 0 _ _ (0, 0) (e.trans HA36.out.box), cell_of_row _ _ 1 _ _ (0, 0) (e.trans HA36.out.box), cell_of_row _ _ 2 _ _ (0, 0) (e.trans HA36.out.box), cell_of_row _ _ 3 _ _ (0, 0) (e.trans HA36.out.box), cell_of_row _ _ 4 _ _ (0, 0) (e.trans HA36.out.box)⟩⟩ : (fun w' => (w'.cell? ⟨B2, 0, none⟩ = some (.int .i64 st) ∧ w'.cell? ⟨B2, 1, none⟩ = some (.int .i64 n) ∧ w'.cell? ⟨B2, 2, none⟩ = some (.slice Av2 (nsL n).length cv2) ∧ w'.cell? ⟨B2, 3, none⟩ = some (.slice At2 (tsL t).length ct2) ∧ w'.cell? ⟨B2, 4, none⟩ = some (.slice Aq nq6 cq)) ∧ (w'.cell? ⟨B, 0, none⟩ = some (.int .i64 st) ∧ w'.cell? ⟨B, 1, none⟩ = some (.int .i64 n) ∧ w'.cell? ⟨B, 2, none⟩ = some (.slice Av (nsL n).length cv) ∧ w'.cell? ⟨B, 3, none⟩ = some (.slice At (tsL t).length ct) ∧ w'.cell? ⟨B, 4, none⟩ = some (.slice Ap l.length cp))) w'))
                    clear hA hbw6 hA3 hx6 hq6 hbx5 hljl hnq6
                    have hlt3 : ¬ ((l.length : Nat) : Int) < ((l.length : Nat) : Int) := by omega
                    go_wp2_with fail
                    refine wp_region_noPanic ?_
                    refine wp_region_held_drew (S := (fun w' => (w'.cell? ⟨B2, 0, none⟩ = some (.int .i64 st) ∧ w'.cell? ⟨B2, 1, none⟩ = some (.int .i64 n) ∧ w'.cell? ⟨B2, 2, none⟩ = some (.slice Av2 (nsL n).length cv2) ∧ w'.cell? ⟨B2, 3, none⟩ = some (.slice At2 (tsL t).length ct2) ∧ w'.cell? ⟨B2, 4, none⟩ = some (.slice Aq nq6 cq)) ∧ (w'.cell? ⟨B, 0, none⟩ = some (.int .i64 st) ∧ w'.cell? ⟨B, 1, none⟩ = some (.int .i64 n) ∧ w'.cell? ⟨B, 2, none⟩ = some (.slice Av (nsL n).length cv) ∧ w'.cell? ⟨B, 3, none⟩ = some (.slice At (tsL t).length ct) ∧ w'.cell? ⟨B, 4, none⟩ = some (.slice Ap l.length cp)))) (by kernel_rfl) ?_ (fun hHeld => ?_)
                    · exact HSK2.out _ rfl rfl
                    refine wpAnyH_take (i := 0) (v := ?_) rfl (by kernel_rfl) (by kernel_rfl) (by kernel_rfl) (fun _ _ _ h => h) (Or.inl ⟨by rfl, ?_⟩) (by assumption) ?_
                    rotate_left
                    · intro w hSw
                      try dsimp only at hSw
                      go_simp
                      try with_reducible rfl
                    try simp only [Act.put, List.setIfInBounds_toArray, List.set_cons_zero, List.set_cons_succ]
                    refine wpAnyH_take (i := 1) (v := ?_) rfl (by kernel_rfl) (by kernel_rfl) (by kernel_rfl) (fun _ _ _ h => h) (Or.inl ⟨by rfl, ?_⟩) (by assumption) ?_
                    rotate_left
                    · intro w hSw
                      try dsimp only at hSw
                      go_simp
                      try with_reducible rfl
                    try simp only [Act.put, List.setIfInBounds_toArray, List.set_cons_zero, List.set_cons_succ]
                    refine wpAnyH_ready (rs := [2]) (by kernel_rfl) (by simp) ?_
                    refine AllReadyH.cons rfl (fun K hK => ?_) AllReadyH.nil
                    refine step_store_box _ (by rfl) 31 (.tmp 2) (.tmp 184) (by rfl) (W.heap.size + 1) (.int .i64 st) (.int .i64 n) (.slice Av2 (nsL n).length cv2) (.slice At2 (tsL t).length ct2) (.slice Aq nq6 cq) _ _ _ _ _ _ (by simp [Act.eval]) (by simp [Act.eval]) (by exact HR2W.out) (by kernel_rfl) (by simp [Value.oneCell']) ?_
                    intro w7 hbx7 hoth7 hbel7 hsz7
                    have HB7 := Lib.hid hbx7
                    have HO7 := Lib.hid hoth7
                    have HE7 := Lib.hid hbel7
                    have HS7 := Lib.hid hsz7
                    clear hbx7 hoth7 hbel7 hsz7
                    refine hK.out _ _ ((HSK2.out _ (HO7.out _ (by have := HBE.out; have := HBL6.out; omega)) (HO7.out _ (by have := HBE.out; have := HBL6.out; omega)))) (fun hHeld => ?_)
                    clear hK K
                    try simp only [Act.put, List.setIfInBounds_toArray, List.set_cons_zero, List.set_cons_succ]
                    refine wpAnyH_ready (rs := [3]) (by kernel_rfl) (by simp) ?_
                    refine AllReadyH.cons rfl (fun K hK => ?_) AllReadyH.nil
                    refine step_store_box _ (by rfl) 34 (.tmp 3) (.tmp 185) (by rfl) (W.heap.size + 1 + 1) (.int .i64 st) (.int .i64 n) (.slice Av (nsL n).length cv) (.slice At (tsL t).length ct) (.slice Ap l.length cp) _ _ _ _ _ _ (by simp [Act.eval]) (by simp [Act.eval]) (by exact (HO7.out _ (by omega)).trans HR3W.out) (by kernel_rfl) (by simp [Value.oneCell']) ?_
                    intro w8 hbx8 hoth8 hbel8 hsz8
                    have HB8 := Lib.hid hbx8
                    have HO8 := Lib.hid hoth8
                    have HE8 := Lib.hid hbel8
                    have HS8 := Lib.hid hsz8
                    clear hbx8 hoth8 hbel8 hsz8
                    refine hK.out _ _ ((HSK2.out _ ((HO8.out _ (by have := HBE.out; have := HBL6.out; omega)).trans (HO7.out _ (by have := HBE.out; have := HBL6.out; omega))) ((HO8.out _ (by have := HBE.out; have := HBL6.out; omega)).trans (HO7.out _ (by have := HBE.out; have := HBL6.out; omega))))) (fun hHeld => ?_)
                    clear hK K
                    try simp only [Act.put, List.setIfInBounds_toArray, List.set_cons_zero, List.set_cons_succ]
                    refine wpAnyH_done (by kernel_rfl) ?_ _
                    refine NoPanic.normal ?_
                    go_wp2_with fail
                    rename_i d1 h1 dd d2 h2
                    cases h1
                    cases h2
                    refine bodyPost_ret (results_cells2 (P := Try.prog) rfl _ _ (W.heap.size + 1) (W.heap.size + 1 + 1) 31 34 _ _ (0, 0) (0, 0) _ _ (by rfl) ((HO8.out _ (by omega)).trans HB7.out) Try.underlying31 (by rfl) (by kernel_rfl) (by rfl) HB8.out Try.underlying34 (by rfl) (by kernel_rfl)) (by rfl) ?_
                    refine ⟨_, _, rfl, ⟨st, n, nsL n, tsL t, l⟩, HG3.out.made hn1 hn8 ht3 hst0 hst1 HLL.out, ?_, ?_, ?_⟩
                    · have h := HA6.out.at_; rw [← HNQ.out] at h; exact h.keep (by rw [HS8.out, HS7.out]; exact Nat.le_refl _) (fun r hp hr => ⟨by have := HBE.out; have hp : B ≤ r := hp; omega, fun j => Gn.cell_same ((HO8.out _ (by have := HBE.out; have hp : B ≤ r := hp; omega)).trans (HO7.out _ (by have := HBE.out; have hp : B ≤ r := hp; omega))) j⟩)
                    · exact HA36.out.at_.keep (by rw [HS8.out, HS7.out]; exact Nat.le_refl _) (fun r hp hr => ⟨by have := HBE.out; have hp : B ≤ r := hp; omega, fun j => Gn.cell_same ((HO8.out _ (by have := HBE.out; have hp : B ≤ r := hp; omega)).trans (HO7.out _ (by have := HBE.out; have hp : B ≤ r := hp; omega))) j⟩)
                    · exact ((Gn.below_drew (HB0.out.trans (HA36.out.below.mono (by have := HBE.out; omega)))).trans (HE7.out W.heap.size (by omega))).trans (HE8.out W.heap.size (by omega))
end Go.Proofs.Ytdknlifpoihnmaa.Fx
